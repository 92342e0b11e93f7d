/- ProcMoves: the law. -/
import Derived.Test.YtkpfmbdkfgeboaaSP14
import Derived.Test.YtkpfmbdkfgeboaaSS14
import Derived.Test.YtkpfmbdkfgeboaaS
import Derived.Test.YtkpfmbdkfgeboaaN
namespace Go.Proofs.Ytkpfmbdkfgeboaa
open Go.RowKit
set_option maxRecDepth 100000
theorem int_info14 : (Try.prog.info? 3).map (fun i => (i.zero, i.size, i.bytes)) = some (some (.int .i64 0), 1, 8) := by kernel_rfl
theorem ints_none14 {w : World} {S : Option Addr} {xs : List Int} (h : IntsR w S xs) (e : S = none) : xs = [] := by
  cases xs with
  | nil => rfl
  | cons x xs => obtain ⟨b, o, e2, _⟩ := h (by simp); rw [e] at e2; cases e2
theorem grown_refl14 (w : World) (r : Option Nat) : w.grownBy w r := ⟨rfl, rfl, rfl, Nat.le_refl _, fun _ _ _ => rfl⟩
/-- an append of a list of ints, run -/
theorem run_app_ints14 (w : World) (base : Nat) (v : Value) (n : Nat) (ys : List Int) (hown : w.ownsRow base 3 1 v n (ys.map (Value.int .i64))) (S : Option Addr) (c : Nat) (xs : List Int) (hr : IntsR w S xs) (hn : S = none → c = 0)
    (h63 : n + xs.length ≤ 1000000) (hbase : base ≤ w.heap.size) :
    ∃ v' w', (Builtin.append_ #[27, 27] 27 #[v, .slice S xs.length c]).run Try.prog w = .ok v' w' ∧ w'.ownsRow base 3 1 v' (n + xs.length) ((ys ++ xs).map (Value.int .i64)) ∧ w.grownBy w' v.ownBlock := by
  obtain ⟨i0, hi0, hz0, hz1, hz2⟩ := info_parts int_info14
  cases S with
  | none =>
    have hx0 := ints_none14 hr rfl
    subst hx0
    refine ⟨v, w, ?_, by simpa using hown, grown_refl14 _ _⟩
    rw [hn rfl]
    exact run_append_owned_none (P := Try.prog) (w := w) base 27 27 3 i0 1 Try.underlying27 hi0 v n _ hown
  | some ad =>
    obtain ⟨v', w', h1, h2, h3, -⟩ := run_append_own (P := Try.prog) w base 27 27 3 i0 (.int .i64 0) 1 8 Try.underlying27 hi0 hz0 hz1 hz2 rfl (by decide) v n _ hown ad xs.length c (xs.map (Value.int .i64)) (by simp) (by
      intro j u hj
      have hjn : j < xs.length := by have := (List.getElem?_eq_some_iff.1 hj).1; simpa using this
      obtain ⟨b, o, e, hlt, hc⟩ := hr (by omega)
      cases e
      have := hc j xs[j] (List.getElem?_eq_getElem hjn)
      rw [List.getElem?_map, List.getElem?_eq_getElem hjn] at hj
      cases hj
      rw [Addr.add_lit]
      exact this) (by intro u hu; obtain ⟨x, _, rfl⟩ := List.mem_map.1 hu; rfl) (by unfold maxLen; omega) (by omega) hbase
    exact ⟨v', w', h1, by simpa using h2, h3⟩
theorem wp_append_run14 {P : Program} {w : World} {o : Oper} {a : Act} {K : Act → World → Prop} {Q : Exit → Act → World → Prop} (s x : Operand) (t : TypeId)
    (ho : o.op = .call { callee := .builtin .append, args := #[s, x], argTypes := #[t, t] }) (v1 : Value) (w1 : World) (hrun : (Builtin.append_ #[t, t] o.type #[a.eval s, a.eval x]).run P w = .ok v1 w1)
    (h : K (a.put o.dst v1) w1) : Oper.wp P o a w K Q := by
  unfold Oper.wp
  simp [execOp, ho, resolve, invoke, builtin, hrun, Result.andThen]
  exact h
set_option maxHeartbeats 4000000 in
theorem procmoves_any14 (h : Hp) (f o : Int) (A : Option Addr) (c : Nat) (w : World) (hs : ObsR w A h.objs) (fit : h.Fit) :
    Calls Try.prog 4 #[.agg #[.slice A h.objs.length c, .int .i64 h.cap, .int .i64 h.last], .int .i64 f, .int .i64 o] w fun e w' => e = .returned (.bool true) ∧ Below w.heap.size w w' := by
  obtain ⟨w0, hw0⟩ : ∃ w0, w0 = w.alloc (.cells #[Value.slice A h.objs.length c, Value.int .i64 h.cap, Value.int .i64 h.last] 24) := ⟨_, rfl⟩
  have HB0 : Hid (Below w.heap.size w w0) := by show Below _ _ _; rw [hw0]; exact below_alloc _ _
  have HX0 : Hid (Lies w0 w.heap.size 24 #[Value.slice A h.objs.length c, Value.int .i64 h.cap, Value.int .i64 h.last]) := by show Lies _ _ _ _; rw [hw0]; exact (Lies.new w _ _)
  have HS := hid hs
  have HF := hid fit
  clear hs fit
  go_enter Try.func4, Try.ntmps4
  go_upto_region 1 with fail
  rw [← hw0]
  clear hw0
  obtain ⟨x0, x1, x2⟩ := HX0.out.c3
  go_wp2_with fail
  refine (fixed14_any w0).mono ?_
  rintro e w1 ⟨rfl, hb⟩
  have HB1 := hid (then_w HB0.out hb)
  have HX1 := hid (HX0.out.later hb)
  clear hb x0 x1 x2 HB0 HX0
  obtain ⟨x0, x1, x2⟩ := HX1.out.c3
  go_wp2_with fail
  refine (small_ok h A c _ (HS.out.below HB1.out) HF.out).mono ?_
  rintro e w2 ⟨sb, rfl, hb⟩
  have HB2 := hid (then_w HB1.out hb)
  have HX2 := hid (HX1.out.later hb)
  clear hb x0 x1 x2 HB1 HX1
  cases sb
  · obtain ⟨x0, x1, x2⟩ := HX2.out.c3
    go_wp2_with fail
    refine (fixed14_any _).mono ?_
    rintro e w3 ⟨rfl, hb⟩
    have HB3 := hid (then_w HB2.out hb)
    clear hb x0 x1 x2 HB2 HX2
    go_wp2_with fail
    go_ret
    exact ⟨rfl, HB3.out⟩
  by_cases h60 : h.objs.length ≤ 60
  case neg =>
    have hI60 : (60 : Int) < (h.objs.length : Int) := by omega
    obtain ⟨x0, x1, x2⟩ := HX2.out.c3
    go_wp2_with fail
    refine (fixed14_any _).mono ?_
    rintro e w3 ⟨rfl, hb⟩
    have HB3 := hid (then_w HB2.out hb)
    clear hb x0 x1 x2 HB2 HX2
    go_wp2_with fail
    go_ret
    exact ⟨rfl, HB3.out⟩
  have hI60 : ¬ (60 : Int) < (h.objs.length : Int) := by omega
  obtain ⟨x0, x1, x2⟩ := HX2.out.c3
  go_wp2_with fail
  refine (rmay_any h A c _ (HS.out.below HB2.out) HF.out).mono ?_
  rintro e w3 ⟨rfl, hb⟩
  have HB3 := hid (then_w HB2.out hb)
  have HX3 := hid (HX2.out.later hb)
  clear hb x0 x1 x2 HB2 HX2
  cases hm : mayB h
  · clear hm
    obtain ⟨x0, x1, x2⟩ := HX3.out.c3
    go_wp2_with fail
    refine (fixed14_any _).mono ?_
    rintro e w4 ⟨rfl, hb⟩
    have HB4 := hid (then_w HB3.out hb)
    clear hb x0 x1 x2 HB3 HX3
    go_wp2_with fail
    go_ret
    exact ⟨rfl, HB4.out⟩
  have HM := hid hm
  clear hm
  obtain ⟨x0, x1, x2⟩ := HX3.out.c3
  go_wp2_with fail
  refine (rlist_any14 h f A c w3 (HS.out.below HB3.out) HF.out HM.out).mono ?_
  rintro e w4 ⟨S, cl, rfl, hol, hb⟩
  have HB4 := hid (then_w HB3.out hb)
  have HX4 := hid (HX3.out.later hb)
  clear hb x0 x1 x2 HB3 HX3
  have HOL := hid hol
  clear hol
  obtain ⟨x0, x1, x2⟩ := HX4.out.c3
  go_wp2_with fail
  refine (rlist_any14 h o A c w4 (HS.out.below HB4.out) HF.out HM.out).mono ?_
  rintro e w5 ⟨S2, cl2, rfl, hol, hb⟩
  have HB5 := hid (then_w HB4.out hb)
  have HX5 := hid (HX4.out.later hb)
  have HOL5 := hid (own_later HOL.out hb)
  clear HOL
  clear hb x0 x1 x2 HB4 HX4
  cases hl : ls14 h f with
  | none =>
    rw [lr_none14 HM.out hl]
    clear hol HOL5
    go_wp2_with fail
    go_ret
    exact ⟨rfl, HB5.out⟩
  | some l =>
    rw [lr_some14 HM.out hl] at HOL5 ⊢
    cases ho : ls14 h o with
    | none =>
      rw [lr_none14 HM.out ho]
      clear hol HOL5
      go_wp2_with fail
      go_ret
      exact ⟨rfl, HB5.out⟩
    | some m =>
      rw [lr_some14 HM.out ho] at hol ⊢
      have HLS := hid hl
      have HLO := hid ho
      have HIL := hid (own_ints HOL5.out)
      have HIM := hid (own_ints hol)
      have HCL := hid (own_cap HOL5.out)
      clear hl ho hol HOL5
      by_cases hn : l = []
      · have hl0 : ((l.length : Int) == 0) = true := by rw [hn]; rfl
        go_wp2_with fail
        go_ret
        exact ⟨rfl, HB5.out⟩
      have HLT : Hid (∃ t, l = f :: t) := by
        show ∃ t, _
        have := (ls_some14 HLS.out).2.2.1
        cases l with
        | nil => exact absurd rfl hn
        | cons q t => exact ⟨t, by rw [show q = f from this]⟩
      have hl0 : ((l.length : Int) == 0) = false := by
        have := List.length_pos_iff.2 hn
        simp
        omega
      have HN0 : Hid (0 < l.length) := List.length_pos_iff.2 hn
      have HLM : Hid (m.length ≤ 256) := by show _ ≤ _; have := (ls_some14 HLO.out).2.2.2; have := may_len HM.out; omega
      have HLLL : Hid (l.length ≤ 256) := by show _ ≤ _; have := (ls_some14 HLS.out).2.2.2; have := may_len HM.out; omega
      have hl64 : l.length ≤ 9223372036854775807 := by have := HLLL.out; omega
      have hm300 : m.length ≤ 300 := by have := HLM.out; omega
      clear hn
      go_wp2_with fail
      clear hl0
      go_loopw [11] (fun i wr => ∃ k : Nat, k ≤ m.length ∧ i = .int .i64 k ∧ Hid (∀ q ∈ m.take k, q ∉ l) ∧ Hid (Below w5.heap.size w5 wr) ∧ Hid (Below w.heap.size w wr) ∧ Hid (Lies wr w.heap.size 24 #[Value.slice A h.objs.length c, Value.int .i64 h.cap, Value.int .i64 h.last])) (fun i _ => m.length - (intOf i).toNat)
      case atStart => exact ⟨0, Nat.zero_le _, rfl, (show ∀ q ∈ m.take 0, q ∉ l from fun q hq => by rw [List.take_zero] at hq; cases hq), Below.refl _ _, HB5, HX5⟩
      case round =>
        rename World => w6
        obtain ⟨k, hk, rfl, HI6, HJ6, HB6, HX6⟩ := hrel
        clear HB5 HX5
        by_cases hlt : k < m.length
        · obtain ⟨bs, os, rfl, hbs, hcs⟩ := HIM.out (by omega)
          have y0 := (HJ6.out.cell (p := ⟨bs, os + k, none⟩) hbs).trans (hcs k _ (List.getElem?_eq_getElem hlt))
          clear hbs hcs
          have HIL6 := hid (HIL.out.below HJ6.out)
          by_cases hin : m[k] ∈ l
          · go_wp2_with fail
            refine (place_any14 l m[k] S cl w6 HIL6.out hl64).mono ?_
            rintro e w7 ⟨rfl, hb⟩
            rw [if_pos hin]
            have HB7 := hid (then_w HB6.out hb)
            clear hb y0
            obtain ⟨j, hj⟩ : ∃ j : Nat, j = l.idxOf m[k] := ⟨_, rfl⟩
            rw [← hj]
            have hj0 : (0 : Int) ≤ (j : Int) := by omega
            clear hj hin
            go_wp2_with fail
            go_ret
            exact ⟨rfl, HB7.out⟩
          · go_wp2_with fail
            refine (place_any14 l m[k] S cl w6 HIL6.out hl64).mono ?_
            rintro e w7 ⟨rfl, hb⟩
            rw [if_neg hin]
            have HI7 : Hid (∀ q ∈ m.take (k + 1), q ∉ l) := fun q hq => by
              rw [List.take_succ_eq_append_getElem hlt] at hq
              rcases List.mem_append.1 hq with g | g
              · exact HI6.out q g
              · rw [List.mem_singleton.1 g]; exact hin
            have HB7 := hid (then_w HB6.out hb)
            have HX7 := hid (HX6.out.later hb)
            have HJ7 := hid (then_w HJ6.out hb)
            clear hb y0 hin
            go_wp2_with fail
            go_roundw
            case rel => exact ⟨k + 1, by omega, by go_num, HI7, HJ7, HB7, HX7⟩
            case measure => simp [intOf]; omega
        · obtain rfl : k = m.length := by omega
          have HLC6 := HLT
          obtain ⟨t, hlt2⟩ := HLT.out
          obtain ⟨a, b, J, kk, mv⟩ := moves14 HM.out (t := t) (m := m) (o := o) (f := f) (by rw [← hlt2]; exact HLS.out) HLO.out (fun q hq => by rw [← hlt2]; exact HI6.out q (by rw [List.take_length]; exact hq))
          have MV := hid mv
          have HTL : Hid (l.length = t.length + 1) := by show _ = _; rw [hlt2]; rfl
          have HIL6 := hid (HIL.out.below HJ6.out)
          have HIM6 := hid (HIM.out.below HJ6.out)
          obtain ⟨bl, ol, rfl, hbl, hcl⟩ := HIL6.out (by have := HN0.out; omega)
          have HL06 : Hid (w6.cell? ⟨bl, ol, none⟩ = some (.int .i64 f)) := by
            show _ = _
            have := hcl 0 f (by rw [hlt2]; rfl)
            simpa using this
          have HIT6 : Hid (IntsR w6 (some ⟨bl, ol + 1, none⟩) t) := fun _ => by
            refine ⟨bl, ol + 1, rfl, hbl, fun j x hj => ?_⟩
            rw [Nat.add_assoc, Nat.add_comm 1 j]
            exact hcl (j + 1) x (by rw [hlt2]; simpa using hj)
          have HBL : Hid (bl < w6.heap.size) := hbl
          obtain ⟨nx, hnx⟩ : ∃ x, x = t.headD 0 := ⟨_, rfl⟩
          obtain ⟨tt, htt⟩ : ∃ x, x = J.headD 0 := ⟨_, rfl⟩
          have M1 : Hid (tk14 h f = (a, f, nx, 0)) := by show _ = _; rw [hnx]; exact mv.take
          have M2 : Hid (is14 a o f = (b, tt, 0)) := by show _ = _; rw [htt]; exact mv.ins
          have M3 : Hid (lr14 b nx = (t, 0)) := by show _ = _; rw [hnx]; exact mv.fst
          have M4 : Hid (lr14 b tt = (J, 0)) := by show _ = _; rw [htt]; exact mv.snd
          clear hlt2 mv hbl hcl hnx htt hlt hk HI6 HJ6 HIL6
          have L0_6 := HL06
          have IT_6 := HIT6
          have IM_6 := HIM6
          clear HL06 HIT6 HIM6
          obtain ⟨x0, x1, x2⟩ := HX6.out.c3
          go_wp2_with fail
          refine (ptake_any14 h f A c w6 (HS.out.below HB6.out) HF.out).mono ?_
          rintro e w7 ⟨A1, c1, l1, rfl, hm, ho, hb⟩
          rw [M1.out] at hm ⊢
          have HB7 := hid (then_w HB6.out hb)
          have HO1 := hid (own_obs ho hm)
          have L0_7 := hid (cell_later hb L0_6.out)
          have IT_7 := hid (IT_6.out.below hb)
          have IM_7 := hid (IM_6.out.below hb)
          clear hm ho hb x0 x1 x2 HB6 L0_6 IT_6 IM_6
          go_upto_region 13 with fail
          obtain ⟨w8, hw⟩ : ∃ x, x = w7.alloc (.cells #[Value.slice A1 a.objs.length c1, Value.int .i64 a.cap, Value.int .i64 a.last] 24) := ⟨_, rfl⟩
          obtain ⟨b1, hbx⟩ : ∃ x, x = w7.heap.size := ⟨_, rfl⟩
          have Y1_8 : Hid (Lies w8 b1 24 #[Value.slice A1 a.objs.length c1, Value.int .i64 a.cap, Value.int .i64 a.last]) := by show Lies _ _ _ _; rw [hw, hbx]; exact Lies.new _ _ _
          have hb : Below w7.heap.size w7 w8 := by rw [hw]; exact below_alloc _ _
          have HB8 := hid (then_w HB7.out hb)
          have O1_8 := hid (HO1.out.below hb)
          have L0_8 := hid (cell_later hb L0_7.out)
          have IT_8 := hid (IT_7.out.below hb)
          have IM_8 := hid (IM_7.out.below hb)
          rw [← hw, ← hbx]
          clear hw hbx hb HO1 HB7 L0_7 IT_7 IM_7
          obtain ⟨x0, x1, x2⟩ := Y1_8.out.c3
          go_wp2_with fail
          refine (pinsert_any14 a o f A1 c1 w8 O1_8.out (may_fit MV.out.may)).mono ?_
          rintro e w9 ⟨A2, c2, l2, rfl, hm, ho, hb⟩
          rw [M2.out] at hm ⊢
          have HB9 := hid (then_w HB8.out hb)
          have HO2 := hid (own_obs ho hm)
          have L0_9 := hid (cell_later hb L0_8.out)
          have IT_9 := hid (IT_8.out.below hb)
          have IM_9 := hid (IM_8.out.below hb)
          clear hm ho hb x0 x1 x2 HB8 L0_8 IT_8 IM_8
          go_upto_region 14 with fail
          obtain ⟨w10, hw⟩ : ∃ x, x = w9.alloc (.cells #[Value.slice A2 b.objs.length c2, Value.int .i64 b.cap, Value.int .i64 b.last] 24) := ⟨_, rfl⟩
          obtain ⟨b2, hbx⟩ : ∃ x, x = w9.heap.size := ⟨_, rfl⟩
          have Y2_10 : Hid (Lies w10 b2 24 #[Value.slice A2 b.objs.length c2, Value.int .i64 b.cap, Value.int .i64 b.last]) := by show Lies _ _ _ _; rw [hw, hbx]; exact Lies.new _ _ _
          have hb : Below w9.heap.size w9 w10 := by rw [hw]; exact below_alloc _ _
          have HB10 := hid (then_w HB9.out hb)
          have O2_10 := hid (HO2.out.below hb)
          have L0_10 := hid (cell_later hb L0_9.out)
          have IT_10 := hid (IT_9.out.below hb)
          have IM_10 := hid (IM_9.out.below hb)
          rw [← hw, ← hbx]
          clear hw hbx hb HO2 HB9 L0_9 IT_9 IM_9
          obtain ⟨x0, x1, x2⟩ := Y2_10.out.c3
          go_wp2_with fail
          refine (plist_any14 b nx A2 c2 w10 O2_10.out (may_fit MV.out.may2)).mono ?_
          rintro e w11 ⟨S3, d3, rfl, hol, hb⟩
          rw [M3.out] at hol ⊢
          have HB11 := hid (then_w HB10.out hb)
          have IX_11 := hid (own_ints hol)
          have L0_11 := hid (cell_later hb L0_10.out)
          have IT_11 := hid (IT_10.out.below hb)
          have IM_11 := hid (IM_10.out.below hb)
          have Y2_11 := hid (Y2_10.out.later hb)
          have O2_11 := hid (O2_10.out.below hb)
          clear hol hb x0 x1 x2 HB10 L0_10 IT_10 IM_10 Y2_10 O2_10
          obtain ⟨x0, x1, x2⟩ := Y2_11.out.c3
          go_wp2_with fail
          refine (plist_any14 b tt A2 c2 w11 O2_11.out (may_fit MV.out.may2)).mono ?_
          rintro e w12 ⟨S4, d4, rfl, hol, hb⟩
          rw [M4.out] at hol ⊢
          have HB12 := hid (then_w HB11.out hb)
          have IJ_12 := hid (own_ints hol)
          have HCJ := hid (own_cap hol)
          have L0_12 := hid (cell_later hb L0_11.out)
          have IT_12 := hid (IT_11.out.below hb)
          have IM_12 := hid (IM_11.out.below hb)
          have IX_12 := hid (IX_11.out.below hb)
          clear hol hb x0 x1 x2 HB11 L0_11 IT_11 IM_11 IX_11
          by_cases hc1 : cl = 1
          · subst hc1
            have hff : (f != f) = false := by simp
            have hk0 : (0 : Int) < (l.length : Int) := by have := HN0.out; omega
            have hk1 : (1 : Int) ≤ (l.length : Int) := by omega
            have hkc : (l.length : Int) ≤ ((1 : Nat) : Int) := by have := HCL.out; omega
            have hwm : IntKind.i64.wrap ((m.length : Int) + 1) = (m.length : Int) + 1 := IntWalk.i64_in _ (by omega)
            have hjm : ((J.length : Int) != (m.length : Int) + 1) = false := by have := MV.out.len; simp; omega
            have y0 := L0_12.out
            have HIN : Hid (Calls Try.prog 18 #[.slice S3 t.length d3, .slice (some ⟨bl, ol, none⟩) (l.length - 1) 0] w12 fun e w' => e = .returned (.bool true) ∧ Below w12.heap.size w12 w') := by
              show Calls _ _ _ _ _
              have e1 : l.length - 1 = t.length := by have := HTL.out; omega
              rw [e1]
              have hR : IntsR w12 (some ⟨bl, ol, none⟩) t := fun h0 => by have := HTL.out; have := HCL.out; omega
              have := rints_any t t S3 _ d3 (0) w12 IX_12.out hR (by have := HTL.out; have := HLLL.out; omega)
              rw [decide_eq_true rfl] at this
              exact this
            go_wp2_with fail
            refine HIN.out.mono ?_
            clear HIN
            rintro e w13 ⟨rfl, hb⟩
            have HB13 := hid (then_w HB12.out hb)
            have IM_13 := hid (IM_12.out.below hb)
            have IJ_13 := hid (IJ_12.out.below hb)
            clear hb y0 HB12 L0_12 IT_12 IM_12 IX_12 IJ_12
            go_wp2_with fail
            refine (place_any14 J f S4 d4 w13 IJ_13.out (by have := MV.out.len; omega)).mono ?_
            rintro e w14 ⟨rfl, hb⟩
            rw [if_pos MV.out.at_.1, MV.out.at_.2]
            have HB14 := hid (then_w HB13.out hb)
            have IM_14 := hid (IM_13.out.below hb)
            have IJ_14 := hid (IJ_13.out.below hb)
            clear hb HB13 IM_13 IJ_13
            obtain ⟨bj, oj, rfl, hbj, hcj⟩ := IJ_14.out (by have := MV.out.le; omega)
            obtain ⟨xs, hxs⟩ : ∃ x, x = J.take kk := ⟨_, rfl⟩
            obtain ⟨ys, hys⟩ : ∃ x, x = J.drop (kk + 1) := ⟨_, rfl⟩
            have HXL : Hid (xs.length = kk) := by show _ = _; rw [hxs, List.length_take]; have := MV.out.le; omega
            have HYL : Hid (ys.length = J.length - (kk + 1)) := by show _ = _; rw [hys, List.length_drop]
            have HXY : Hid (xs ++ ys = m) := by show _ = _; rw [hxs, hys]; exact MV.out.rest
            have HXS : Hid (IntsR w14 (some ⟨bj, oj, none⟩) xs) := fun _ => by
              refine ⟨bj, oj, rfl, hbj, fun j x hj => ?_⟩
              rw [hxs, List.getElem?_take] at hj
              split at hj
              · exact hcj _ x hj
              · cases hj
            have HYS : Hid (IntsR w14 (if d4 = kk + 1 then some ⟨bj, oj, none⟩ else some ⟨bj, oj + (kk + 1), none⟩) ys) := by
              show IntsR _ _ _
              intro h0
              rw [HYL.out] at h0
              rw [if_neg (by have := HCJ.out; omega)]
              refine ⟨bj, oj + (kk + 1), rfl, hbj, fun j x hj => ?_⟩
              rw [hys, List.getElem?_drop] at hj
              rw [Nat.add_assoc]
              exact hcj _ x hj
            have hkk0 : (0 : Int) ≤ (kk : Int) := by omega
            have hkk1 : (0 : Int) ≤ (kk : Int) + 1 := by omega
            have hkj : (kk : Int) + 1 ≤ (J.length : Int) := by have := MV.out.le; omega
            have hjd : (J.length : Int) ≤ (d4 : Int) := by have := HCJ.out; omega
            have hkd : (kk : Int) ≤ (d4 : Int) := by omega
            have hkw : IntKind.i64.wrap ((kk : Int) + 1) = (kk : Int) + 1 := IntWalk.i64_in _ (by have := MV.out.le; have := MV.out.len; omega)
            clear hxs hys hbj hcj
            go_upto_region 19 with fail
            refine wp_region_held_drew (S := (fun _ => True)) (by kernel_rfl) ?_ (fun hH0 => ?_)
            · exact trivial
            refine wpAnyH_take (i := 0) (oi := { dst := some 146, op := Go.Op.move (Go.Operand.tmp 23), type := 3, pos := "law.go:178", after := #[], guard := none }) (v := ?vv1) rfl (by kernel_rfl) (by kernel_rfl) (by kernel_rfl) (fun _ _ _ h => h) (Or.inl ⟨by rfl, ?hy1⟩) (by assumption) ?rr1
            case hy1 => intro w hSw; (try dsimp only at hSw); go_simp; all_goals with_reducible rfl
            try simp only [Act.put, List.setIfInBounds_toArray, List.set_cons_zero, List.set_cons_succ]
            refine wpAnyH_take (i := 1) (oi := { dst := some 147, op := Go.Op.binOp Go.BinOp.geq 3 (Go.Operand.tmp 146) (Go.Operand.const (Go.Value.int Go.IntKind.i64 0)) 3, type := 4, pos := "law.go:178", after := #[{ on := 0, ground := Go.Ground.data }], guard := none }) (v := ?vv2) rfl (by kernel_rfl) (by kernel_rfl) (by kernel_rfl) (fun _ _ _ h => h) (Or.inl ⟨by rfl, ?hy2⟩) (by assumption) ?rr2
            case hy2 => intro w hSw; (try dsimp only at hSw); go_simp; all_goals with_reducible rfl
            try simp only [Act.put, List.setIfInBounds_toArray, List.set_cons_zero, List.set_cons_succ]
            refine wpAnyH_take (i := 2) (oi := { dst := some 148, op := Go.Op.move (Go.Operand.tmp 147), type := 4, pos := "law.go:178", after := #[{ on := 1, ground := Go.Ground.data }], guard := none }) (v := ?vv3) rfl (by kernel_rfl) (by kernel_rfl) (by kernel_rfl) (fun _ _ _ h => h) (Or.inl ⟨by rfl, ?hy3⟩) (by assumption) ?rr3
            case hy3 => intro w hSw; (try dsimp only at hSw); go_simp; all_goals with_reducible rfl
            try simp only [Act.put, List.setIfInBounds_toArray, List.set_cons_zero, List.set_cons_succ]
            refine wpAnyH_take (i := 4) (oi := { dst := some 150, op := Go.Op.move (Go.Operand.tmp 21), type := 27, pos := "law.go:178", after := #[{ on := 2, ground := Go.Ground.guard }], guard := some (2, true) }) (v := ?vv4) rfl (by kernel_rfl) (by kernel_rfl) (by kernel_rfl) (fun _ _ _ h => h) (Or.inl ⟨by rfl, ?hy4⟩) (by assumption) ?rr4
            case hy4 => intro w hSw; (try dsimp only at hSw); go_simp; all_goals with_reducible rfl
            try simp only [Act.put, List.setIfInBounds_toArray, List.set_cons_zero, List.set_cons_succ]
            refine wpAnyH_take (i := 5) (oi := { dst := some 151, op := Go.Op.move (Go.Operand.tmp 23), type := 3, pos := "law.go:178", after := #[{ on := 2, ground := Go.Ground.guard }], guard := some (2, true) }) (v := ?vv5) rfl (by kernel_rfl) (by kernel_rfl) (by kernel_rfl) (fun _ _ _ h => h) (Or.inl ⟨by rfl, ?hy5⟩) (by assumption) ?rr5
            case hy5 => intro w hSw; (try dsimp only at hSw); go_simp; all_goals with_reducible rfl
            try simp only [Act.put, List.setIfInBounds_toArray, List.set_cons_zero, List.set_cons_succ]
            refine wpAnyH_take (i := 6) (oi := { dst := some 152, op := Go.Op.slice 27 (Go.Operand.tmp 150) none (some (Go.Operand.tmp 151)) none, type := 27, pos := "law.go:178", after := #[{ on := 4, ground := Go.Ground.data }, { on := 5, ground := Go.Ground.data }, { on := 2, ground := Go.Ground.guard }], guard := some (2, true) }) (v := ?vv6) rfl (by kernel_rfl) (by kernel_rfl) (by kernel_rfl) (fun _ _ _ h => h) (Or.inl ⟨by rfl, ?hy6⟩) (by assumption) ?rr6
            case hy6 => intro w hSw; (try dsimp only at hSw); go_simp; all_goals with_reducible rfl
            try simp only [Act.put, List.setIfInBounds_toArray, List.set_cons_zero, List.set_cons_succ]
            refine wpAnyH_take (i := 8) (oi := { dst := some 154, op := Go.Op.move (Go.Operand.tmp 21), type := 27, pos := "law.go:178", after := #[{ on := 2, ground := Go.Ground.guard }], guard := some (2, true) }) (v := ?vv7) rfl (by kernel_rfl) (by kernel_rfl) (by kernel_rfl) (fun _ _ _ h => h) (Or.inl ⟨by rfl, ?hy7⟩) (by assumption) ?rr7
            case hy7 => intro w hSw; (try dsimp only at hSw); go_simp; all_goals with_reducible rfl
            try simp only [Act.put, List.setIfInBounds_toArray, List.set_cons_zero, List.set_cons_succ]
            refine wpAnyH_take (i := 9) (oi := { dst := some 155, op := Go.Op.move (Go.Operand.tmp 23), type := 3, pos := "law.go:178", after := #[{ on := 2, ground := Go.Ground.guard }], guard := some (2, true) }) (v := ?vv8) rfl (by kernel_rfl) (by kernel_rfl) (by kernel_rfl) (fun _ _ _ h => h) (Or.inl ⟨by rfl, ?hy8⟩) (by assumption) ?rr8
            case hy8 => intro w hSw; (try dsimp only at hSw); go_simp; all_goals with_reducible rfl
            try simp only [Act.put, List.setIfInBounds_toArray, List.set_cons_zero, List.set_cons_succ]
            refine wpAnyH_take (i := 10) (oi := { dst := some 156, op := Go.Op.binOp Go.BinOp.add 3 (Go.Operand.tmp 155) (Go.Operand.const (Go.Value.int Go.IntKind.i64 1)) 3, type := 3, pos := "law.go:178", after := #[{ on := 9, ground := Go.Ground.data }, { on := 2, ground := Go.Ground.guard }], guard := some (2, true) }) (v := ?vv9) rfl (by kernel_rfl) (by kernel_rfl) (by kernel_rfl) (fun _ _ _ h => h) (Or.inl ⟨by rfl, ?hy9⟩) (by assumption) ?rr9
            case hy9 => intro w hSw; (try dsimp only at hSw); go_simp; all_goals with_reducible rfl
            try simp only [Act.put, List.setIfInBounds_toArray, List.set_cons_zero, List.set_cons_succ]
            refine wpAnyH_take (i := 11) (oi := { dst := some 157, op := Go.Op.slice 27 (Go.Operand.tmp 154) (some (Go.Operand.tmp 156)) none none, type := 27, pos := "law.go:178", after := #[{ on := 8, ground := Go.Ground.data }, { on := 10, ground := Go.Ground.data }, { on := 2, ground := Go.Ground.guard }], guard := some (2, true) }) (v := ?vv10) rfl (by kernel_rfl) (by kernel_rfl) (by kernel_rfl) (fun _ _ _ h => h) (Or.inl ⟨by rfl, ?hy10⟩) (by assumption) ?rr10
            case hy10 => intro w hSw; (try dsimp only at hSw); go_simp; all_goals with_reducible rfl
            try simp only [Act.put, List.setIfInBounds_toArray, List.set_cons_zero, List.set_cons_succ]
            refine wpAnyH_take (i := 13) (oi := { dst := some 159, op := Go.Op.move (Go.Operand.tmp 9), type := 27, pos := "law.go:178", after := #[{ on := 2, ground := Go.Ground.guard }], guard := some (2, true) }) (v := ?vv11) rfl (by kernel_rfl) (by kernel_rfl) (by kernel_rfl) (fun _ _ _ h => h) (Or.inl ⟨by rfl, ?hy11⟩) (by assumption) ?rr11
            case hy11 => intro w hSw; (try dsimp only at hSw); go_simp; all_goals with_reducible rfl
            try simp only [Act.put, List.setIfInBounds_toArray, List.set_cons_zero, List.set_cons_succ]
            refine wpAnyH_ready (rs := [3]) (by kernel_rfl) (by simp) ?_
            refine AllReadyH.cons (i := 3) (o := { dst := some 149, op := Go.Op.buildSlice 27 0 #[], type := 27, pos := "law.go:178", after := #[{ on := 2, ground := Go.Ground.guard }], guard := some (2, true) }) rfl (fun K hK => ?_) AllReadyH.nil
            go_simp
            obtain ⟨u1, hu⟩ : ∃ x, x = (w14.alloc (.cells #[] 3)).drew := ⟨_, rfl⟩
            obtain ⟨g1, hg⟩ : ∃ x, x = w14.heap.size := ⟨_, rfl⟩
            have BB1 : Hid (Below w14.heap.size w14 u1) := by show Below _ _ _; rw [hu]; exact (below_alloc _ _).drew
            have OB1 : Hid (u1.ownsRow w14.heap.size 3 1 (.slice (some ⟨g1, 0, none⟩) 0 0) 0 (([] : List Int).map (Value.int .i64))) := by
              show World.ownsRow _ _ _ _ _ _ _
              rw [hu, hg]; exact own_later (own_nil14 w14) (Below.refl _ _).drew
            rw [← hu, ← hg]
            clear hu hg
            refine hK.out _ _ ?_ (fun hH1 => ?_)
            · trivial
            clear hK K
            try simp only [Act.put, List.setIfInBounds_toArray, List.set_cons_zero, List.set_cons_succ]
            refine wpAnyH_ready (rs := [7]) (by kernel_rfl) (by simp) ?_
            refine AllReadyH.cons (i := 7) (o := { dst := some 153, op := Go.Op.call { callee := Go.Callee.builtin Go.Builtin.append, args := #[Go.Operand.tmp 149, Go.Operand.tmp 152], argTypes := #[27, 27] }, type := 27, pos := "law.go:178", after := #[{ on := 3, ground := Go.Ground.data }, { on := 6, ground := Go.Ground.data }, { on := 2, ground := Go.Ground.chain }, { on := 2, ground := Go.Ground.guard }], guard := some (2, true) }) rfl (fun K hK => ?_) AllReadyH.nil
            obtain ⟨v2, u2, hrun, hown, hgr⟩ := run_app_ints14 u1 w14.heap.size (.slice (some ⟨g1, 0, none⟩) 0 0) 0 [] OB1.out (some ⟨bj, oj, none⟩) d4 xs (HXS.out.below BB1.out) (fun e => by cases e) (by rw [HXL.out]; have := MV.out.le; have := MV.out.len; omega) BB1.out.size
            rw [List.nil_append, Nat.zero_add] at hown
            have BB2 := hid (BB1.out.grown hgr BB1.out.size (fun k hk => (OB1.out.lt k hk).1))
            have OB2 := hid hown
            rw [HXL.out] at hrun OB2
            refine wp_append_run14 _ _ 27 rfl _ u2 hrun ?_
            refine hK.out _ _ ?_ (fun hH2 => ?_)
            · trivial
            clear hK K
            try simp only [Act.put, List.setIfInBounds_toArray, List.set_cons_zero, List.set_cons_succ]
            clear hrun hown hgr
            refine wpAnyH_ready (rs := [12]) (by kernel_rfl) (by simp) ?_
            refine AllReadyH.cons (i := 12) (o := { dst := some 158, op := Go.Op.call { callee := Go.Callee.builtin Go.Builtin.append, args := #[Go.Operand.tmp 153, Go.Operand.tmp 157], argTypes := #[27, 27] }, type := 27, pos := "law.go:178", after := #[{ on := 7, ground := Go.Ground.data }, { on := 11, ground := Go.Ground.data }, { on := 7, ground := Go.Ground.chain }, { on := 2, ground := Go.Ground.guard }], guard := some (2, true) }) rfl (fun K hK => ?_) AllReadyH.nil
            obtain ⟨v3, u3, hrun, hown, hgr⟩ := run_app_ints14 u2 w14.heap.size v2 kk xs OB2.out (if d4 = kk + 1 then some ⟨bj, oj, none⟩ else some ⟨bj, oj + (kk + 1), none⟩) (d4 - (kk + 1)) ys (HYS.out.below BB2.out) (fun e => by split at e <;> cases e) (by rw [HYL.out]; have := MV.out.le; have := MV.out.len; omega) BB2.out.size
            have BB3 := hid (BB2.out.grown hgr BB2.out.size (fun k hk => (OB2.out.lt k hk).1))
            rw [HXY.out, show kk + ys.length = m.length from by rw [← HXY.out, List.length_append, HXL.out]] at hown
            have OB3 := hid hown
            rw [HYL.out] at hrun
            refine wp_append_run14 _ _ 27 rfl _ u3 hrun ?_
            obtain ⟨S5, c5, rfl⟩ := own_form OB3.out
            refine hK.out _ _ ?_ (fun hH3 => ?_)
            · trivial
            clear hK K
            try simp only [Act.put, List.setIfInBounds_toArray, List.set_cons_zero, List.set_cons_succ]
            clear hrun hown hgr
            refine wpAnyH_ready (rs := [14]) (by kernel_rfl) (by simp) ?_
            refine AllReadyH.cons (i := 14) (o := { dst := some 160, op := Go.Op.call { callee := Go.Callee.value (Go.Operand.func 18), args := #[Go.Operand.tmp 158, Go.Operand.tmp 159], argTypes := #[27, 27] }, type := 4, pos := "law.go:178", after := #[{ on := 12, ground := Go.Ground.data }, { on := 13, ground := Go.Ground.data }, { on := 12, ground := Go.Ground.chain }, { on := 2, ground := Go.Ground.guard }], guard := some (2, true) }) rfl (fun K hK => ?_) AllReadyH.nil
            go_simp
            go_at_call 18
            refine (rints_any m m S5 S2 c5 cl2 u3 (own_ints OB3.out) (IM_14.out.below BB3.out) (by omega)).mono ?_
            rintro e u4 ⟨rfl, hb⟩
            rw [decide_eq_true rfl]
            have BB4 := hid (then_w BB3.out hb)
            refine hK.out _ _ ?_ (fun hH4 => ?_)
            · trivial
            clear hK K
            try simp only [Act.put, List.setIfInBounds_toArray, List.set_cons_zero, List.set_cons_succ]
            clear hb
            refine wpAnyH_take (i := 15) (oi := { dst := some 161, op := Go.Op.pick (Go.Operand.tmp 148) (Go.Operand.tmp 160) (Go.Operand.const (Go.Value.bool false)), type := 4, pos := "law.go:178", after := #[{ on := 2, ground := Go.Ground.data }, { on := 14, ground := Go.Ground.data }], guard := none }) (v := ?vv12) rfl (by kernel_rfl) (by kernel_rfl) (by kernel_rfl) (fun _ _ _ h => h) (Or.inl ⟨by rfl, ?hy12⟩) (by assumption) ?rr12
            case hy12 => intro w hSw; (try dsimp only at hSw); go_simp; all_goals with_reducible rfl
            try simp only [Act.put, List.setIfInBounds_toArray, List.set_cons_zero, List.set_cons_succ]
            refine wpAnyH_take (i := 16) (oi := { dst := some 6, op := Go.Op.assign (Go.Operand.tmp 161), type := 4, pos := "law.go:178", after := #[{ on := 15, ground := Go.Ground.data }, { on := 14, ground := Go.Ground.chain }, { on := 0, ground := Go.Ground.phase }, { on := 1, ground := Go.Ground.phase }, { on := 2, ground := Go.Ground.phase }, { on := 3, ground := Go.Ground.phase }, { on := 4, ground := Go.Ground.phase }, { on := 5, ground := Go.Ground.phase }, { on := 6, ground := Go.Ground.phase }, { on := 7, ground := Go.Ground.phase }, { on := 8, ground := Go.Ground.phase }, { on := 9, ground := Go.Ground.phase }, { on := 10, ground := Go.Ground.phase }, { on := 11, ground := Go.Ground.phase }, { on := 12, ground := Go.Ground.phase }, { on := 13, ground := Go.Ground.phase }, { on := 14, ground := Go.Ground.phase }, { on := 15, ground := Go.Ground.phase }], guard := none }) (v := ?vv13) rfl (by kernel_rfl) (by kernel_rfl) (by kernel_rfl) (fun _ _ _ h => h) (Or.inl ⟨by rfl, ?hy13⟩) (by assumption) ?rr13
            case hy13 => intro w hSw; (try dsimp only at hSw); go_simp; all_goals with_reducible rfl
            try simp only [Act.put, List.setIfInBounds_toArray, List.set_cons_zero, List.set_cons_succ]
            refine wpAnyH_done (by kernel_rfl) ?_ _
            go_wp2_with fail
            all_goals
              go_ret
              exact ⟨rfl, then_w HB14.out BB4.out⟩
          · have hff : (f != f) = false := by simp
            have hk0 : (0 : Int) < (l.length : Int) := by have := HN0.out; omega
            have hk1 : (1 : Int) ≤ (l.length : Int) := by omega
            have hkc : (l.length : Int) ≤ (cl : Int) := by have := HCL.out; omega
            have hwm : IntKind.i64.wrap ((m.length : Int) + 1) = (m.length : Int) + 1 := IntWalk.i64_in _ (by omega)
            have hjm : ((J.length : Int) != (m.length : Int) + 1) = false := by have := MV.out.len; simp; omega
            have y0 := L0_12.out
            have HIN : Hid (Calls Try.prog 18 #[.slice S3 t.length d3, .slice (some ⟨bl, ol + 1, none⟩) (l.length - 1) (cl - 1)] w12 fun e w' => e = .returned (.bool true) ∧ Below w12.heap.size w12 w') := by
              show Calls _ _ _ _ _
              have e1 : l.length - 1 = t.length := by have := HTL.out; omega
              rw [e1]
              have hR : IntsR w12 (some ⟨bl, ol + 1, none⟩) t := IT_12.out
              have := rints_any t t S3 _ d3 ((cl - 1)) w12 IX_12.out hR (by have := HTL.out; have := HLLL.out; omega)
              rw [decide_eq_true rfl] at this
              exact this
            go_wp2_with fail
            refine HIN.out.mono ?_
            clear HIN
            rintro e w13 ⟨rfl, hb⟩
            have HB13 := hid (then_w HB12.out hb)
            have IM_13 := hid (IM_12.out.below hb)
            have IJ_13 := hid (IJ_12.out.below hb)
            clear hb y0 HB12 L0_12 IT_12 IM_12 IX_12 IJ_12
            go_wp2_with fail
            refine (place_any14 J f S4 d4 w13 IJ_13.out (by have := MV.out.len; omega)).mono ?_
            rintro e w14 ⟨rfl, hb⟩
            rw [if_pos MV.out.at_.1, MV.out.at_.2]
            have HB14 := hid (then_w HB13.out hb)
            have IM_14 := hid (IM_13.out.below hb)
            have IJ_14 := hid (IJ_13.out.below hb)
            clear hb HB13 IM_13 IJ_13
            obtain ⟨bj, oj, rfl, hbj, hcj⟩ := IJ_14.out (by have := MV.out.le; omega)
            obtain ⟨xs, hxs⟩ : ∃ x, x = J.take kk := ⟨_, rfl⟩
            obtain ⟨ys, hys⟩ : ∃ x, x = J.drop (kk + 1) := ⟨_, rfl⟩
            have HXL : Hid (xs.length = kk) := by show _ = _; rw [hxs, List.length_take]; have := MV.out.le; omega
            have HYL : Hid (ys.length = J.length - (kk + 1)) := by show _ = _; rw [hys, List.length_drop]
            have HXY : Hid (xs ++ ys = m) := by show _ = _; rw [hxs, hys]; exact MV.out.rest
            have HXS : Hid (IntsR w14 (some ⟨bj, oj, none⟩) xs) := fun _ => by
              refine ⟨bj, oj, rfl, hbj, fun j x hj => ?_⟩
              rw [hxs, List.getElem?_take] at hj
              split at hj
              · exact hcj _ x hj
              · cases hj
            have HYS : Hid (IntsR w14 (if d4 = kk + 1 then some ⟨bj, oj, none⟩ else some ⟨bj, oj + (kk + 1), none⟩) ys) := by
              show IntsR _ _ _
              intro h0
              rw [HYL.out] at h0
              rw [if_neg (by have := HCJ.out; omega)]
              refine ⟨bj, oj + (kk + 1), rfl, hbj, fun j x hj => ?_⟩
              rw [hys, List.getElem?_drop] at hj
              rw [Nat.add_assoc]
              exact hcj _ x hj
            have hkk0 : (0 : Int) ≤ (kk : Int) := by omega
            have hkk1 : (0 : Int) ≤ (kk : Int) + 1 := by omega
            have hkj : (kk : Int) + 1 ≤ (J.length : Int) := by have := MV.out.le; omega
            have hjd : (J.length : Int) ≤ (d4 : Int) := by have := HCJ.out; omega
            have hkd : (kk : Int) ≤ (d4 : Int) := by omega
            have hkw : IntKind.i64.wrap ((kk : Int) + 1) = (kk : Int) + 1 := IntWalk.i64_in _ (by have := MV.out.le; have := MV.out.len; omega)
            clear hxs hys hbj hcj
            go_upto_region 19 with fail
            refine wp_region_held_drew (S := (fun _ => True)) (by kernel_rfl) ?_ (fun hH0 => ?_)
            · exact trivial
            refine wpAnyH_take (i := 0) (oi := { dst := some 146, op := Go.Op.move (Go.Operand.tmp 23), type := 3, pos := "law.go:178", after := #[], guard := none }) (v := ?vv14) rfl (by kernel_rfl) (by kernel_rfl) (by kernel_rfl) (fun _ _ _ h => h) (Or.inl ⟨by rfl, ?hy14⟩) (by assumption) ?rr14
            case hy14 => intro w hSw; (try dsimp only at hSw); go_simp; all_goals with_reducible rfl
            try simp only [Act.put, List.setIfInBounds_toArray, List.set_cons_zero, List.set_cons_succ]
            refine wpAnyH_take (i := 1) (oi := { dst := some 147, op := Go.Op.binOp Go.BinOp.geq 3 (Go.Operand.tmp 146) (Go.Operand.const (Go.Value.int Go.IntKind.i64 0)) 3, type := 4, pos := "law.go:178", after := #[{ on := 0, ground := Go.Ground.data }], guard := none }) (v := ?vv15) rfl (by kernel_rfl) (by kernel_rfl) (by kernel_rfl) (fun _ _ _ h => h) (Or.inl ⟨by rfl, ?hy15⟩) (by assumption) ?rr15
            case hy15 => intro w hSw; (try dsimp only at hSw); go_simp; all_goals with_reducible rfl
            try simp only [Act.put, List.setIfInBounds_toArray, List.set_cons_zero, List.set_cons_succ]
            refine wpAnyH_take (i := 2) (oi := { dst := some 148, op := Go.Op.move (Go.Operand.tmp 147), type := 4, pos := "law.go:178", after := #[{ on := 1, ground := Go.Ground.data }], guard := none }) (v := ?vv16) rfl (by kernel_rfl) (by kernel_rfl) (by kernel_rfl) (fun _ _ _ h => h) (Or.inl ⟨by rfl, ?hy16⟩) (by assumption) ?rr16
            case hy16 => intro w hSw; (try dsimp only at hSw); go_simp; all_goals with_reducible rfl
            try simp only [Act.put, List.setIfInBounds_toArray, List.set_cons_zero, List.set_cons_succ]
            refine wpAnyH_take (i := 4) (oi := { dst := some 150, op := Go.Op.move (Go.Operand.tmp 21), type := 27, pos := "law.go:178", after := #[{ on := 2, ground := Go.Ground.guard }], guard := some (2, true) }) (v := ?vv17) rfl (by kernel_rfl) (by kernel_rfl) (by kernel_rfl) (fun _ _ _ h => h) (Or.inl ⟨by rfl, ?hy17⟩) (by assumption) ?rr17
            case hy17 => intro w hSw; (try dsimp only at hSw); go_simp; all_goals with_reducible rfl
            try simp only [Act.put, List.setIfInBounds_toArray, List.set_cons_zero, List.set_cons_succ]
            refine wpAnyH_take (i := 5) (oi := { dst := some 151, op := Go.Op.move (Go.Operand.tmp 23), type := 3, pos := "law.go:178", after := #[{ on := 2, ground := Go.Ground.guard }], guard := some (2, true) }) (v := ?vv18) rfl (by kernel_rfl) (by kernel_rfl) (by kernel_rfl) (fun _ _ _ h => h) (Or.inl ⟨by rfl, ?hy18⟩) (by assumption) ?rr18
            case hy18 => intro w hSw; (try dsimp only at hSw); go_simp; all_goals with_reducible rfl
            try simp only [Act.put, List.setIfInBounds_toArray, List.set_cons_zero, List.set_cons_succ]
            refine wpAnyH_take (i := 6) (oi := { dst := some 152, op := Go.Op.slice 27 (Go.Operand.tmp 150) none (some (Go.Operand.tmp 151)) none, type := 27, pos := "law.go:178", after := #[{ on := 4, ground := Go.Ground.data }, { on := 5, ground := Go.Ground.data }, { on := 2, ground := Go.Ground.guard }], guard := some (2, true) }) (v := ?vv19) rfl (by kernel_rfl) (by kernel_rfl) (by kernel_rfl) (fun _ _ _ h => h) (Or.inl ⟨by rfl, ?hy19⟩) (by assumption) ?rr19
            case hy19 => intro w hSw; (try dsimp only at hSw); go_simp; all_goals with_reducible rfl
            try simp only [Act.put, List.setIfInBounds_toArray, List.set_cons_zero, List.set_cons_succ]
            refine wpAnyH_take (i := 8) (oi := { dst := some 154, op := Go.Op.move (Go.Operand.tmp 21), type := 27, pos := "law.go:178", after := #[{ on := 2, ground := Go.Ground.guard }], guard := some (2, true) }) (v := ?vv20) rfl (by kernel_rfl) (by kernel_rfl) (by kernel_rfl) (fun _ _ _ h => h) (Or.inl ⟨by rfl, ?hy20⟩) (by assumption) ?rr20
            case hy20 => intro w hSw; (try dsimp only at hSw); go_simp; all_goals with_reducible rfl
            try simp only [Act.put, List.setIfInBounds_toArray, List.set_cons_zero, List.set_cons_succ]
            refine wpAnyH_take (i := 9) (oi := { dst := some 155, op := Go.Op.move (Go.Operand.tmp 23), type := 3, pos := "law.go:178", after := #[{ on := 2, ground := Go.Ground.guard }], guard := some (2, true) }) (v := ?vv21) rfl (by kernel_rfl) (by kernel_rfl) (by kernel_rfl) (fun _ _ _ h => h) (Or.inl ⟨by rfl, ?hy21⟩) (by assumption) ?rr21
            case hy21 => intro w hSw; (try dsimp only at hSw); go_simp; all_goals with_reducible rfl
            try simp only [Act.put, List.setIfInBounds_toArray, List.set_cons_zero, List.set_cons_succ]
            refine wpAnyH_take (i := 10) (oi := { dst := some 156, op := Go.Op.binOp Go.BinOp.add 3 (Go.Operand.tmp 155) (Go.Operand.const (Go.Value.int Go.IntKind.i64 1)) 3, type := 3, pos := "law.go:178", after := #[{ on := 9, ground := Go.Ground.data }, { on := 2, ground := Go.Ground.guard }], guard := some (2, true) }) (v := ?vv22) rfl (by kernel_rfl) (by kernel_rfl) (by kernel_rfl) (fun _ _ _ h => h) (Or.inl ⟨by rfl, ?hy22⟩) (by assumption) ?rr22
            case hy22 => intro w hSw; (try dsimp only at hSw); go_simp; all_goals with_reducible rfl
            try simp only [Act.put, List.setIfInBounds_toArray, List.set_cons_zero, List.set_cons_succ]
            refine wpAnyH_take (i := 11) (oi := { dst := some 157, op := Go.Op.slice 27 (Go.Operand.tmp 154) (some (Go.Operand.tmp 156)) none none, type := 27, pos := "law.go:178", after := #[{ on := 8, ground := Go.Ground.data }, { on := 10, ground := Go.Ground.data }, { on := 2, ground := Go.Ground.guard }], guard := some (2, true) }) (v := ?vv23) rfl (by kernel_rfl) (by kernel_rfl) (by kernel_rfl) (fun _ _ _ h => h) (Or.inl ⟨by rfl, ?hy23⟩) (by assumption) ?rr23
            case hy23 => intro w hSw; (try dsimp only at hSw); go_simp; all_goals with_reducible rfl
            try simp only [Act.put, List.setIfInBounds_toArray, List.set_cons_zero, List.set_cons_succ]
            refine wpAnyH_take (i := 13) (oi := { dst := some 159, op := Go.Op.move (Go.Operand.tmp 9), type := 27, pos := "law.go:178", after := #[{ on := 2, ground := Go.Ground.guard }], guard := some (2, true) }) (v := ?vv24) rfl (by kernel_rfl) (by kernel_rfl) (by kernel_rfl) (fun _ _ _ h => h) (Or.inl ⟨by rfl, ?hy24⟩) (by assumption) ?rr24
            case hy24 => intro w hSw; (try dsimp only at hSw); go_simp; all_goals with_reducible rfl
            try simp only [Act.put, List.setIfInBounds_toArray, List.set_cons_zero, List.set_cons_succ]
            refine wpAnyH_ready (rs := [3]) (by kernel_rfl) (by simp) ?_
            refine AllReadyH.cons (i := 3) (o := { dst := some 149, op := Go.Op.buildSlice 27 0 #[], type := 27, pos := "law.go:178", after := #[{ on := 2, ground := Go.Ground.guard }], guard := some (2, true) }) rfl (fun K hK => ?_) AllReadyH.nil
            go_simp
            obtain ⟨u1, hu⟩ : ∃ x, x = (w14.alloc (.cells #[] 3)).drew := ⟨_, rfl⟩
            obtain ⟨g1, hg⟩ : ∃ x, x = w14.heap.size := ⟨_, rfl⟩
            have BB1 : Hid (Below w14.heap.size w14 u1) := by show Below _ _ _; rw [hu]; exact (below_alloc _ _).drew
            have OB1 : Hid (u1.ownsRow w14.heap.size 3 1 (.slice (some ⟨g1, 0, none⟩) 0 0) 0 (([] : List Int).map (Value.int .i64))) := by
              show World.ownsRow _ _ _ _ _ _ _
              rw [hu, hg]; exact own_later (own_nil14 w14) (Below.refl _ _).drew
            rw [← hu, ← hg]
            clear hu hg
            refine hK.out _ _ ?_ (fun hH1 => ?_)
            · trivial
            clear hK K
            try simp only [Act.put, List.setIfInBounds_toArray, List.set_cons_zero, List.set_cons_succ]
            refine wpAnyH_ready (rs := [7]) (by kernel_rfl) (by simp) ?_
            refine AllReadyH.cons (i := 7) (o := { dst := some 153, op := Go.Op.call { callee := Go.Callee.builtin Go.Builtin.append, args := #[Go.Operand.tmp 149, Go.Operand.tmp 152], argTypes := #[27, 27] }, type := 27, pos := "law.go:178", after := #[{ on := 3, ground := Go.Ground.data }, { on := 6, ground := Go.Ground.data }, { on := 2, ground := Go.Ground.chain }, { on := 2, ground := Go.Ground.guard }], guard := some (2, true) }) rfl (fun K hK => ?_) AllReadyH.nil
            obtain ⟨v2, u2, hrun, hown, hgr⟩ := run_app_ints14 u1 w14.heap.size (.slice (some ⟨g1, 0, none⟩) 0 0) 0 [] OB1.out (some ⟨bj, oj, none⟩) d4 xs (HXS.out.below BB1.out) (fun e => by cases e) (by rw [HXL.out]; have := MV.out.le; have := MV.out.len; omega) BB1.out.size
            rw [List.nil_append, Nat.zero_add] at hown
            have BB2 := hid (BB1.out.grown hgr BB1.out.size (fun k hk => (OB1.out.lt k hk).1))
            have OB2 := hid hown
            rw [HXL.out] at hrun OB2
            refine wp_append_run14 _ _ 27 rfl _ u2 hrun ?_
            refine hK.out _ _ ?_ (fun hH2 => ?_)
            · trivial
            clear hK K
            try simp only [Act.put, List.setIfInBounds_toArray, List.set_cons_zero, List.set_cons_succ]
            clear hrun hown hgr
            refine wpAnyH_ready (rs := [12]) (by kernel_rfl) (by simp) ?_
            refine AllReadyH.cons (i := 12) (o := { dst := some 158, op := Go.Op.call { callee := Go.Callee.builtin Go.Builtin.append, args := #[Go.Operand.tmp 153, Go.Operand.tmp 157], argTypes := #[27, 27] }, type := 27, pos := "law.go:178", after := #[{ on := 7, ground := Go.Ground.data }, { on := 11, ground := Go.Ground.data }, { on := 7, ground := Go.Ground.chain }, { on := 2, ground := Go.Ground.guard }], guard := some (2, true) }) rfl (fun K hK => ?_) AllReadyH.nil
            obtain ⟨v3, u3, hrun, hown, hgr⟩ := run_app_ints14 u2 w14.heap.size v2 kk xs OB2.out (if d4 = kk + 1 then some ⟨bj, oj, none⟩ else some ⟨bj, oj + (kk + 1), none⟩) (d4 - (kk + 1)) ys (HYS.out.below BB2.out) (fun e => by split at e <;> cases e) (by rw [HYL.out]; have := MV.out.le; have := MV.out.len; omega) BB2.out.size
            have BB3 := hid (BB2.out.grown hgr BB2.out.size (fun k hk => (OB2.out.lt k hk).1))
            rw [HXY.out, show kk + ys.length = m.length from by rw [← HXY.out, List.length_append, HXL.out]] at hown
            have OB3 := hid hown
            rw [HYL.out] at hrun
            refine wp_append_run14 _ _ 27 rfl _ u3 hrun ?_
            obtain ⟨S5, c5, rfl⟩ := own_form OB3.out
            refine hK.out _ _ ?_ (fun hH3 => ?_)
            · trivial
            clear hK K
            try simp only [Act.put, List.setIfInBounds_toArray, List.set_cons_zero, List.set_cons_succ]
            clear hrun hown hgr
            refine wpAnyH_ready (rs := [14]) (by kernel_rfl) (by simp) ?_
            refine AllReadyH.cons (i := 14) (o := { dst := some 160, op := Go.Op.call { callee := Go.Callee.value (Go.Operand.func 18), args := #[Go.Operand.tmp 158, Go.Operand.tmp 159], argTypes := #[27, 27] }, type := 4, pos := "law.go:178", after := #[{ on := 12, ground := Go.Ground.data }, { on := 13, ground := Go.Ground.data }, { on := 12, ground := Go.Ground.chain }, { on := 2, ground := Go.Ground.guard }], guard := some (2, true) }) rfl (fun K hK => ?_) AllReadyH.nil
            go_simp
            go_at_call 18
            refine (rints_any m m S5 S2 c5 cl2 u3 (own_ints OB3.out) (IM_14.out.below BB3.out) (by omega)).mono ?_
            rintro e u4 ⟨rfl, hb⟩
            rw [decide_eq_true rfl]
            have BB4 := hid (then_w BB3.out hb)
            refine hK.out _ _ ?_ (fun hH4 => ?_)
            · trivial
            clear hK K
            try simp only [Act.put, List.setIfInBounds_toArray, List.set_cons_zero, List.set_cons_succ]
            clear hb
            refine wpAnyH_take (i := 15) (oi := { dst := some 161, op := Go.Op.pick (Go.Operand.tmp 148) (Go.Operand.tmp 160) (Go.Operand.const (Go.Value.bool false)), type := 4, pos := "law.go:178", after := #[{ on := 2, ground := Go.Ground.data }, { on := 14, ground := Go.Ground.data }], guard := none }) (v := ?vv25) rfl (by kernel_rfl) (by kernel_rfl) (by kernel_rfl) (fun _ _ _ h => h) (Or.inl ⟨by rfl, ?hy25⟩) (by assumption) ?rr25
            case hy25 => intro w hSw; (try dsimp only at hSw); go_simp; all_goals with_reducible rfl
            try simp only [Act.put, List.setIfInBounds_toArray, List.set_cons_zero, List.set_cons_succ]
            refine wpAnyH_take (i := 16) (oi := { dst := some 6, op := Go.Op.assign (Go.Operand.tmp 161), type := 4, pos := "law.go:178", after := #[{ on := 15, ground := Go.Ground.data }, { on := 14, ground := Go.Ground.chain }, { on := 0, ground := Go.Ground.phase }, { on := 1, ground := Go.Ground.phase }, { on := 2, ground := Go.Ground.phase }, { on := 3, ground := Go.Ground.phase }, { on := 4, ground := Go.Ground.phase }, { on := 5, ground := Go.Ground.phase }, { on := 6, ground := Go.Ground.phase }, { on := 7, ground := Go.Ground.phase }, { on := 8, ground := Go.Ground.phase }, { on := 9, ground := Go.Ground.phase }, { on := 10, ground := Go.Ground.phase }, { on := 11, ground := Go.Ground.phase }, { on := 12, ground := Go.Ground.phase }, { on := 13, ground := Go.Ground.phase }, { on := 14, ground := Go.Ground.phase }, { on := 15, ground := Go.Ground.phase }], guard := none }) (v := ?vv26) rfl (by kernel_rfl) (by kernel_rfl) (by kernel_rfl) (fun _ _ _ h => h) (Or.inl ⟨by rfl, ?hy26⟩) (by assumption) ?rr26
            case hy26 => intro w hSw; (try dsimp only at hSw); go_simp; all_goals with_reducible rfl
            try simp only [Act.put, List.setIfInBounds_toArray, List.set_cons_zero, List.set_cons_succ]
            refine wpAnyH_done (by kernel_rfl) ?_ _
            go_wp2_with fail
            all_goals
              go_ret
              exact ⟨rfl, then_w HB14.out BB4.out⟩
end Go.Proofs.Ytkpfmbdkfgeboaa
