/- The document's heap, and roots, of bytes. -/
import Derived.Test.YthggafdfglojaaaKC8
import Derived.Test.YthggafdfglojaaaKB8
import Derived.Test.YthggafdfglojaaaAO
namespace Go.Proofs.Ythggafdfglojaaa
open Go.RowKit
set_option maxRecDepth 100000
def DecP (w : World) (l : List UInt8) (e : Ending) (w' : World) : Prop :=
  ∃ A c R d ls, e = .returned (.tuple #[.agg #[.slice A (deH l).objs.length c, .int .i64 (deH l).cap, .int .i64 (deH l).last], .slice R (deL l).length d, .int .i64 (deE l)]) ∧ ls.map (·.o) = (deH l).objs ∧ OwnH w' w.heap.size A c ls ∧
    w'.ownsRow w.heap.size 3 1 (.slice R (deL l).length d) (deL l).length ((deL l).map (Value.int .i64)) ∧ Below w.heap.size w w'
theorem str_inj {a b : List UInt8} (h : (str a).toList = (str b).toList) : a = b := by
  have := text7_inj h
  rw [← list_str a, ← list_str b, this]
theorem de_no {l : List UInt8} (h : deE l ≠ 0) : deH l = ⟨[], 0, 0⟩ ∧ deL l = [] := by
  unfold deH deL
  rw [if_neg h, if_neg h]; exact ⟨rfl, rfl⟩
theorem de_yes {l : List UInt8} (h : deE l = 0) : deH l = dcH (l.take (l.length - 4)) ∧ deL l = dcL (l.take (l.length - 4)) := by
  unfold deH deL
  rw [if_pos h, if_pos h]; exact ⟨rfl, rfl⟩
theorem dec_err {w w' : World} {l : List UInt8} {en : Int} (h : deE l = en) (hn : en ≠ 0) (hb : Below w.heap.size w w') : DecP w l (.returned (.tuple #[.agg #[.slice none 0 0, .int .i64 0, .int .i64 0], .slice none 0 0, .int .i64 en])) w' := by
  obtain ⟨h1, h2⟩ := de_no (l := l) (by rw [h]; exact hn)
  refine ⟨none, 0, none, 0, [], ?_, ?_, ?_, ?_, hb⟩
  · rw [h, h1, h2]; rfl
  · rw [h1]; rfl
  · exact OwnH.nil _ _
  · rw [h2]; exact World.ownsRow_nil _ _ _ _
theorem ls_short (r : Rd) : (lsV r).length ≤ r.s.length + 4 := by
  have h := nms_short (nmV r).toNat (lsI r)
  have h2 : (lsI r).s.length ≤ r.s.length := by
    unfold lsI
    split <;> exact tkR_len r 4
  unfold lsV
  omega
theorem obs_fit (k : Nat) (r : Rd) : ∀ o ∈ obsV k r, o.slots.length ≤ r.s.length + 4 := by
  induction k generalizing r with
  | zero => intro o ho; cases ho
  | succ k ih =>
    intro o ho
    cases hb : r.bad
    · have e1 : obsV (k + 1) r = obV r :: obsV k (obR r) := by
        show (if r.bad then [] else _) = _
        rw [hb]; rfl
      rw [e1] at ho
      rcases List.mem_cons.1 ho with rfl | h
      · unfold obV
        show (if obK r = 0 then lsV (obT r) else []).length ≤ _
        split
        · exact Nat.le_trans (ls_short _) (Nat.add_le_add_right (obT_len r) 4)
        · simp
      · have := ih (obR r) o h
        have := ob_len r
        omega
    · have e1 : obsV (k + 1) r = [] := by
        show (if r.bad then [] else _) = _
        rw [hb]; rfl
      rw [e1] at ho; cases ho
theorem Only.ownH {g : Nat} {w w' : World} {r : Rd} {base : Nat} {A : Option Addr} {c : Nat} {ls : List LO} (h : Only g w w') (hr : RdL w g r) (ho : OwnH w base A c ls) : OwnH w' base A c ls :=
  ⟨h.own ho.row (own_blk_ne ho.row hr (by decide)), fun i l hl => h.own (ho.ints i l hl) (own_blk_ne (ho.ints i l hl) hr (by decide)), ho.apart⟩
set_option maxHeartbeats 6000000 in
theorem rdec_any8 (l : List UInt8) (hl : l.length ≤ 100000) (w : World) : Calls Try.prog 38 #[.string (str l)] w (DecP w l) := by
  obtain ⟨w0, hw0⟩ : ∃ w0, w0 = w.alloc (.cells #[.slice none 0 0, .int .i64 0, .int .i64 0] 24) := ⟨_, rfl⟩
  have HB0 : Hid (Below w.heap.size w w0) := by show Below _ _ _; rw [hw0]; exact below_alloc _ _
  have HK0 : Hid (Lies w0 w.heap.size 24 #[.slice none 0 0, .int .i64 0, .int .i64 0]) := by
    show Lies _ _ _ _
    rw [hw0]; exact Lies.new _ _ _
  have hsz := str_size l
  go_enter Try.func38, Try.ntmps38
  go_upto_region 1 with fail
  rw [← hw0]
  clear hw0
  by_cases q0 : (l.length : Int) < 23
  · have E : Hid (deE l = 80) := by show deE l = 80; unfold deE; rw [if_pos (by omega)]
    have k0 := HK0.out.cell 0
    have kf0 := HK0.out.frozen 0
    have k1 := HK0.out.cell 1
    have kf1 := HK0.out.frozen 1
    have k2 := HK0.out.cell 2
    have kf2 := HK0.out.frozen 2
    simp only [List.getElem?_toArray, List.getElem?_cons_zero, List.getElem?_cons_succ] at k0 k1 k2
    go_wp2_with fail
    have X1 := ((HK0.out.set_ 0 (.slice none 0 0)).set_ 1 (.int .i64 0)).set_ 2 (.int .i64 0)
    have r0 := X1.cell 0
    have r1 := X1.cell 1
    have r2 := X1.cell 2
    simp only [List.setIfInBounds_toArray, List.set_cons_zero, List.set_cons_succ, List.getElem?_toArray, List.getElem?_cons_zero, List.getElem?_cons_succ] at r0 r1 r2
    refine bodyPost_ret (v := .tuple #[.agg #[.slice none 0 0, .int .i64 0, .int .i64 0], .slice none 0 0, .int .i64 80]) (by simp [results, Try.results38, go_sem, r0, r1, r2]) rfl ?_
    exact dec_err (E.out) (by decide) (((HB0.out.setCell (p := ⟨w.heap.size, 0, none⟩) (Nat.le_refl _) (.slice none 0 0)).setCell (p := ⟨w.heap.size, 1, none⟩) (Nat.le_refl _) (.int .i64 0)).setCell (p := ⟨w.heap.size, 2, none⟩) (Nat.le_refl _) (.int .i64 0))
  · obtain ⟨j, hj⟩ : ∃ j, j = l.length - 4 := ⟨_, rfl⟩
    have hjI : (l.length : Int) - 4 = (j : Int) := by omega
    have hw1 : IntKind.i64.wrap ((l.length : Int) - 4) = (j : Int) := by rw [hjI]; exact IntWalk.i64_in _ ⟨by omega, by omega⟩
    have hw2 : wrap64 ((l.length : Int) - 4) = (j : Int) := by rw [hjI]; exact wrap64_fit (by omega) (by omega)
    have hw3 : wrap64 (j : Int) = (j : Int) := wrap64_fit (by omega) (by omega)
    have hw4 : IntKind.i64.wrap (j : Int) = (j : Int) := IntWalk.i64_in _ ⟨by omega, by omega⟩
    have hjle : j ≤ l.length := by omega
    have hjI2 : (j : Int) ≤ (l.length : Int) := by omega
    obtain ⟨t, ht⟩ : ∃ t, t = l.take j := ⟨_, rfl⟩
    obtain ⟨s4, hs4⟩ : ∃ t, t = l.drop j := ⟨_, rfl⟩
    have x1 := str_extract l 0 j
    have x2 := str_extract l j l.length
    rw [List.drop_zero, ← ht] at x1
    rw [List.take_length, ← hs4] at x2
    have HTT : Hid (t = l.take (l.length - 4)) := by show _ = _; rw [ht, hj]
    have HS4 : Hid (s4 = l.drop (l.length - 4)) := by show _ = _; rw [hs4, hj]
    have htl : t.length ≤ 100000 := by rw [ht, List.length_take]; omega
    have HTL := hid htl
    have hst := str_size t
    have HSZ : Hid ((str t).size ≤ 9223372036854775807) := by show _ ≤ _; omega
    have HM1 := hid (moI_str t)
    have HM2 := hid (boI_su t)
    obtain ⟨m, hm⟩ : ∃ m, m = (su8 t : Int) := ⟨_, rfl⟩
    rw [← hm] at HM1 HM2
    have HMM := hid hm
    obtain ⟨n5, hn5⟩ : ∃ x, x = n4 m := ⟨_, rfl⟩
    have HN5 := hid hn5
    rw [← hn5] at HM2
    clear ht hs4 hm hn5 hj htl
    by_cases hq : n5 = s4
    · subst hq
      have E1 : Hid (¬ l.length < 23 ∧ ¬ n4 (su8 (l.take (l.length - 4))) ≠ l.drop (l.length - 4)) := by
        refine ⟨by omega, ?_⟩
        rw [← HTT.out, ← HS4.out, ← HMM.out, ← HN5.out]; exact fun h => h rfl
      go_upto_region 4 with fail
      refine wp_region_held_drew (S := (fun _ => True)) (by kernel_rfl) ?_ (fun hH0 => ?_)
      · exact trivial
      refine wpAnyH_take (i := 0) (oi := { dst := some 20, op := Go.Op.move (Go.Operand.tmp 5), type := 9, pos := "ref.go:128", after := #[], guard := none }) (v := ?vv13) rfl (by kernel_rfl) (by kernel_rfl) (by kernel_rfl) (fun _ _ _ h => h) (Or.inl ⟨by rfl, ?hy13⟩) (by assumption) ?rr13
      case hy13 => intro w hSw; (try dsimp only at hSw); go_simp; all_goals with_reducible rfl
      try simp only [Act.put, List.setIfInBounds_toArray, List.set_cons_zero, List.set_cons_succ]
      refine wpAnyH_take (i := 3) (oi := { dst := some 23, op := Go.Op.move (Go.Operand.tmp 0), type := 9, pos := "ref.go:128", after := #[], guard := none }) (v := ?vv14) rfl (by kernel_rfl) (by kernel_rfl) (by kernel_rfl) (fun _ _ _ h => h) (Or.inl ⟨by rfl, ?hy14⟩) (by assumption) ?rr14
      case hy14 => intro w hSw; (try dsimp only at hSw); go_simp; all_goals with_reducible rfl
      try simp only [Act.put, List.setIfInBounds_toArray, List.set_cons_zero, List.set_cons_succ]
      refine wpAnyH_take (i := 4) (oi := { dst := some 24, op := Go.Op.move (Go.Operand.tmp 0), type := 9, pos := "ref.go:128", after := #[], guard := none }) (v := ?vv15) rfl (by kernel_rfl) (by kernel_rfl) (by kernel_rfl) (fun _ _ _ h => h) (Or.inl ⟨by rfl, ?hy15⟩) (by assumption) ?rr15
      case hy15 => intro w hSw; (try dsimp only at hSw); go_simp; all_goals with_reducible rfl
      try simp only [Act.put, List.setIfInBounds_toArray, List.set_cons_zero, List.set_cons_succ]
      refine wpAnyH_take (i := 5) (oi := { dst := some 25, op := Go.Op.call { callee := Go.Callee.builtin Go.Builtin.len, args := #[Go.Operand.tmp 24], argTypes := #[9] }, type := 3, pos := "ref.go:128", after := #[{ on := 4, ground := Go.Ground.data }], guard := none }) (v := ?vv16) rfl (by kernel_rfl) (by kernel_rfl) (by kernel_rfl) (fun _ _ _ h => h) (Or.inl ⟨by rfl, ?hy16⟩) (by assumption) ?rr16
      case hy16 => intro w hSw; (try dsimp only at hSw); go_simp; all_goals with_reducible rfl
      try simp only [Act.put, List.setIfInBounds_toArray, List.set_cons_zero, List.set_cons_succ]
      refine wpAnyH_take (i := 6) (oi := { dst := some 26, op := Go.Op.binOp Go.BinOp.sub 3 (Go.Operand.tmp 25) (Go.Operand.const (Go.Value.int Go.IntKind.i64 4)) 3, type := 3, pos := "ref.go:128", after := #[{ on := 5, ground := Go.Ground.data }], guard := none }) (v := ?vv17) rfl (by kernel_rfl) (by kernel_rfl) (by kernel_rfl) (fun _ _ _ h => h) (Or.inl ⟨by rfl, ?hy17⟩) (by assumption) ?rr17
      case hy17 => intro w hSw; (try dsimp only at hSw); go_simp; all_goals with_reducible rfl
      try simp only [Act.put, List.setIfInBounds_toArray, List.set_cons_zero, List.set_cons_succ]
      refine wpAnyH_take (i := 7) (oi := { dst := some 27, op := Go.Op.slice 9 (Go.Operand.tmp 23) (some (Go.Operand.tmp 26)) none none, type := 9, pos := "ref.go:128", after := #[{ on := 3, ground := Go.Ground.data }, { on := 6, ground := Go.Ground.data }], guard := none }) (v := ?vv18) rfl (by kernel_rfl) (by kernel_rfl) (by kernel_rfl) (fun _ _ _ h => h) (Or.inl ⟨by rfl, ?hy18⟩) (by assumption) ?rr18
      case hy18 => intro w hSw; (try dsimp only at hSw); go_simp; all_goals with_reducible rfl
      try simp only [Act.put, List.setIfInBounds_toArray, List.set_cons_zero, List.set_cons_succ]
      refine wpAnyH_ready (rs := [1]) (by kernel_rfl) (by simp) ?_
      refine AllReadyH.cons (i := 1) (o := { dst := some 21, op := Go.Op.call { callee := Go.Callee.value (Go.Operand.func 44), args := #[Go.Operand.tmp 20], argTypes := #[9] }, type := 3, pos := "ref.go:128", after := #[{ on := 0, ground := Go.Ground.data }], guard := none }) rfl (fun K hK => ?_) AllReadyH.nil
      go_simp
      go_at_call 44
      refine (rof_any7 (str t) HSZ.out _).mono ?_
      rintro e v1 ⟨rfl, hv1⟩
      have HV1 := hid (show Below w0.heap.size w0 v1 by rw [← hv1]; exact (Below.refl _ w0).drew)
      clear hv1
      rw [HM1.out]
      refine hK.out _ _ ?_ (fun hH1 => ?_)
      · exact trivial
      clear hK K
      try simp only [Act.put, List.setIfInBounds_toArray, List.set_cons_zero, List.set_cons_succ]
      refine wpAnyH_ready (rs := [2]) (by kernel_rfl) (by simp) ?_
      refine AllReadyH.cons (i := 2) (o := { dst := some 22, op := Go.Op.call { callee := Go.Callee.value (Go.Operand.func 43), args := #[Go.Operand.tmp 21], argTypes := #[3] }, type := 9, pos := "ref.go:128", after := #[{ on := 1, ground := Go.Ground.data }, { on := 1, ground := Go.Ground.chain }], guard := none }) rfl (fun K hK => ?_) AllReadyH.nil
      go_simp
      go_at_call 43
      refine (rbytes_any m _).mono ?_
      rintro e v2 ⟨rfl, hb⟩
      rw [HM2.out]
      have HV2 := hid (then_w HV1.out hb)
      refine hK.out _ _ ?_ (fun hH2 => ?_)
      · exact trivial
      clear hK K
      try simp only [Act.put, List.setIfInBounds_toArray, List.set_cons_zero, List.set_cons_succ]
      clear hb
      refine wpAnyH_take (i := 8) (oi := { dst := some 28, op := Go.Op.binOp Go.BinOp.neq 9 (Go.Operand.tmp 22) (Go.Operand.tmp 27) 9, type := 4, pos := "ref.go:128", after := #[{ on := 2, ground := Go.Ground.data }, { on := 7, ground := Go.Ground.data }], guard := none }) (v := ?vv19) rfl (by kernel_rfl) (by kernel_rfl) (by kernel_rfl) (fun _ _ _ h => h) (Or.inl ⟨by rfl, ?hy19⟩) (by assumption) ?rr19
      case hy19 => intro w hSw; (try dsimp only at hSw); go_simp; all_goals with_reducible rfl
      try simp only [Act.put, List.setIfInBounds_toArray, List.set_cons_zero, List.set_cons_succ]
      refine wpAnyH_done (by kernel_rfl) ?_ _
      obtain ⟨w1, hw1⟩ : ∃ u, u = v2 := ⟨_, rfl⟩
      have hb := HV2.out
      rw [← hw1] at hb ⊢
      have HB1 := hid (HB0.out.trans (hb.mono HB0.out.size))
      have HK1 := hid (HK0.out.later hb)
      clear hb hw1
      have HR1 : Hid (RdL (w1.alloc (.cells #[.string (str t), .bool false] 75)) w1.heap.size ⟨t, false⟩) := Lies.new w1 75 (rdC ⟨t, false⟩)
      have hA1 := below_alloc w1 (.cells #[.string (str t), .bool false] 75)
      have HWG : Hid (w.heap.size ≤ w1.heap.size) := HB1.out.size
      have nkg : w.heap.size ≠ w1.heap.size := Nat.ne_of_lt HK1.out.lt
      have HKA := hid (HK1.out.later hA1)
      have HBA := hid (HB1.out.trans (hA1.mono HB1.out.size))
      clear hA1
      go_wp2_with fail
      refine (take_any ⟨t, false⟩ 3 w1.heap.size _ HR1.out (by have := HTL.out; show t.length ≤ _; omega)).mono ?_
      rintro e w2 ⟨rfl, h1, h2⟩
      have HR2a : Hid (RdL w2 w1.heap.size (dc0 t)) := h1
      have HK2a := hid (h2.lies HKA.out nkg)
      have HB2a := hid (h2.from_ HBA.out HWG.out HBA.out.size)
      clear h1 h2
      have n7g : w2.heap.size ≠ w1.heap.size := fun e => by have := HR2a.out.lt; omega
      have nk7 : w.heap.size ≠ w2.heap.size := fun e => by have := HK2a.out.lt; omega
      have HW7 : Hid (w.heap.size ≤ w2.heap.size) := HB2a.out.size
      have hA2 := below_alloc w2 (.cells #[.slice none 0 0, .int .i64 0, .int .i64 0] 24)
      have HR2 := hid (HR2a.out.later hA2)
      have HK2 := hid (HK2a.out.later hA2)
      have HB2 := hid (HB2a.out.trans (hA2.mono HB2a.out.size))
      have H72 := hid (Lies.new w2 24 #[.slice none 0 0, .int .i64 0, .int .i64 0])
      clear hA2
      obtain ⟨cp, hcp⟩ : ∃ x, x = nmV (dc0 t) := ⟨_, rfl⟩
      obtain ⟨la, hla⟩ : ∃ x, x = nmV (dc1 t) := ⟨_, rfl⟩
      obtain ⟨n, hn⟩ : ∃ x, x = nmV (dc2 t) := ⟨_, rfl⟩
      have Hcp := hid hcp
      have Hla := hid hla
      have Hn := hid hn
      have hnr := nm_range (dc2 t)
      rw [← hn] at hnr
      obtain ⟨hnr0, hnr1⟩ := hnr
      have t0 : (dc0 t).s.length ≤ 100000 := Nat.le_trans (tkR_len _ 3) HTL.out
      have t1 : (dc1 t).s.length ≤ 100000 := Nat.le_trans (tkR_len _ 4) t0
      have t2 : (dc2 t).s.length ≤ 100000 := Nat.le_trans (tkR_len _ 4) t1
      have t3 : (dc3 t).s.length ≤ 100000 := Nat.le_trans (tkR_len _ 4) t2
      clear hcp hla hn
      go_wp2_with fail
      refine (num_any8 (dc0 t) w1.heap.size _ HR2.out (by omega)).mono ?_
      rintro e w3 ⟨rfl, h1, h2⟩
      rw [show nmV (dc0 t) = cp from Hcp.out.symm]
      have HR3 := hid h1
      have H73 := hid (h2.lies H72.out n7g)
      have HK3 := hid (h2.lies HK2.out nkg)
      have HB3 := hid (h2.from_ HB2.out HWG.out HB2.out.size)
      clear h1 h2
      have l1 := H73.out.cell 1
      have lf1 := H73.out.frozen 1
      simp only [List.getElem?_toArray, List.getElem?_cons_zero, List.getElem?_cons_succ] at l1
      have HR4 := hid (HR3.out.far (p := ⟨w2.heap.size, 1, none⟩) n7g.symm (.int .i64 cp))
      have H74 := hid (H73.out.set_ 1 (.int .i64 cp))
      have HK4 := hid (HK3.out.far (p := ⟨w2.heap.size, 1, none⟩) nk7 (.int .i64 cp))
      have HB4 := hid (HB3.out.setCell (p := ⟨w2.heap.size, 1, none⟩) HW7.out (.int .i64 cp))
      simp only [List.setIfInBounds_toArray, List.set_cons_zero, List.set_cons_succ] at H74
      go_wp2_with fail
      refine (num_any8 (dc1 t) w1.heap.size _ HR4.out (by omega)).mono ?_
      rintro e w5 ⟨rfl, h1, h2⟩
      rw [show nmV (dc1 t) = la from Hla.out.symm]
      have HR5 := hid h1
      have H75 := hid (h2.lies H74.out n7g)
      have HK5 := hid (h2.lies HK4.out nkg)
      have HB5 := hid (h2.from_ HB4.out HWG.out HB4.out.size)
      clear h1 h2
      have l2 := H75.out.cell 2
      have lf2 := H75.out.frozen 2
      simp only [List.getElem?_toArray, List.getElem?_cons_zero, List.getElem?_cons_succ] at l2
      have HR6 := hid (HR5.out.far (p := ⟨w2.heap.size, 2, none⟩) n7g.symm (.int .i64 la))
      have H76 := hid (H75.out.set_ 2 (.int .i64 la))
      have HK6 := hid (HK5.out.far (p := ⟨w2.heap.size, 2, none⟩) nk7 (.int .i64 la))
      have HB6 := hid (HB5.out.setCell (p := ⟨w2.heap.size, 2, none⟩) HW7.out (.int .i64 la))
      simp only [List.setIfInBounds_toArray, List.set_cons_zero, List.set_cons_succ] at H76
      go_wp2_with fail
      refine (num_any8 (dc2 t) w1.heap.size _ HR6.out (by omega)).mono ?_
      rintro e w7 ⟨rfl, h1, h2⟩
      rw [show nmV (dc2 t) = n from Hn.out.symm]
      have HR7 := hid h1
      have H77 := hid (h2.lies H76.out n7g)
      have HK7 := hid (h2.lies HK6.out nkg)
      have HB7 := hid (h2.from_ HB6.out HWG.out HB6.out.size)
      clear h1 h2
      clear l1 lf1 l2 lf2
      go_wp2_with fail
      go_loopw [9] (fun i wr => ∃ (k : Nat) (A : Option Addr) (c : Nat) (ls : List LO), k ≤ n.toNat ∧ i = .int .i64 k ∧ Lies wr w2.heap.size 24 #[.slice A ls.length c, .int .i64 cp, .int .i64 la] ∧ Hid (ls.map (·.o) = obsV k (dc3 t)) ∧ OwnH wr w.heap.size A c ls ∧ RdL wr w1.heap.size (obsR k (dc3 t)) ∧ Below w.heap.size w wr ∧ Lies wr w.heap.size 24 #[.slice none 0 0, .int .i64 0, .int .i64 0]) (fun i _ => n.toNat - (intOf i).toNat)
      case atStart => exact ⟨0, none, 0, [], Nat.zero_le _, rfl, H77.out, hid rfl, OwnH.nil _ _, HR7.out, HB7.out, HK7.out⟩
      case round =>
        obtain ⟨k, A, c, ls, hk, rfl, h7, HLS, ho, hd, hb, hkk⟩ := hrel
        have H7 := hid h7
        have HO := hid ho
        have HB := hid hb
        have HK := hid hkk
        obtain ⟨q, hq⟩ : ∃ q, q = obsR k (dc3 t) := ⟨_, rfl⟩
        have HQQ := hid hq
        rw [← hq] at hd
        have HD := hid hd
        have d1 := Lies.cell hd 1
        have s0 := h7.cell 0
        simp only [rdC, List.getElem?_toArray, List.getElem?_cons_zero, List.getElem?_cons_succ] at d1 s0
        have hql : q.s.length ≤ 100000 := by rw [hq]; exact Nat.le_trans (obs_len k (dc3 t)) t3
        have hll : ls.length = (obsV k (dc3 t)).length := by rw [← HLS.out, List.length_map]
        have hsh := obs_short k (dc3 t)
        have hl300 : ls.length ≤ 9000 := by omega
        clear h7 ho hb hkk hd hq
        by_cases hlt : k < n.toNat
        · have hltI : (k : Int) < n := by omega
          cases hb : q.bad
          · obtain ⟨s1, s2⟩ := obs_step k (dc3 t)
            rw [← HQQ.out, hb] at s1 s2
            simp only [Bool.false_eq_true, if_false] at s1 s2
            obtain ⟨o, hoo⟩ : ∃ o, o = obV q := ⟨_, rfl⟩
            have HOO := hid hoo
            rw [← hoo] at s1
            have S1 := hid s1
            have S2 := hid s2
            rw [hb] at d1
            clear s1 s2 hoo hll hsh
            go_upto_region 15 with fail
            refine wp_region_held_drew (S := (fun _ => True)) (by kernel_rfl) ?_ (fun hH0 => ?_)
            · exact trivial
            refine wpAnyH_take (i := 0) (oi := { dst := some 56, op := Go.Op.fieldAddr 24 (Go.Operand.tmp 7) 0, type := 0, pos := "ref.go:138", after := #[], guard := none }) (v := ?vv8) rfl (by kernel_rfl) (by kernel_rfl) (by kernel_rfl) (fun _ _ _ h => h) (Or.inl ⟨by rfl, ?hy8⟩) (by assumption) ?rr8
            case hy8 => intro w hSw; (try dsimp only at hSw); go_simp; all_goals with_reducible rfl
            try simp only [Act.put, List.setIfInBounds_toArray, List.set_cons_zero, List.set_cons_succ]
            refine wpAnyH_take (i := 2) (oi := { dst := some 58, op := Go.Op.move (Go.Operand.tmp 6), type := 73, pos := "ref.go:138", after := #[], guard := none }) (v := ?vv9) rfl (by kernel_rfl) (by kernel_rfl) (by kernel_rfl) (fun _ _ _ h => h) (Or.inl ⟨by rfl, ?hy9⟩) (by assumption) ?rr9
            case hy9 => intro w hSw; (try dsimp only at hSw); go_simp; all_goals with_reducible rfl
            try simp only [Act.put, List.setIfInBounds_toArray, List.set_cons_zero, List.set_cons_succ]
            refine wpAnyH_ready (rs := [1, 3]) (by kernel_rfl) (by simp) ?_
            refine AllReadyH.cons (i := 1) (o := { dst := some 57, op := Go.Op.load 22 (Go.Operand.tmp 56), type := 22, pos := "ref.go:138", after := #[{ on := 0, ground := Go.Ground.data }], guard := none }) rfl (fun K hK => ?_) (AllReadyH.cons (i := 3) (o := { dst := some 59, op := Go.Op.call { callee := Go.Callee.value (Go.Operand.func 71), args := #[Go.Operand.tmp 58], argTypes := #[73] }, type := 46, pos := "ref.go:138", after := #[{ on := 2, ground := Go.Ground.data }], guard := none }) rfl (fun K hK => ?_) AllReadyH.nil)
            · go_simp
              refine hK.out _ _ ?_ (fun hH1 => ?_)
              · exact trivial
              clear hK K
              try simp only [Act.put, List.setIfInBounds_toArray, List.set_cons_zero, List.set_cons_succ]
              refine wpAnyH_ready (rs := [3]) (by kernel_rfl) (by simp) ?_
              refine AllReadyH.cons (i := 3) (o := { dst := some 59, op := Go.Op.call { callee := Go.Callee.value (Go.Operand.func 71), args := #[Go.Operand.tmp 58], argTypes := #[73] }, type := 46, pos := "ref.go:138", after := #[{ on := 2, ground := Go.Ground.data }], guard := none }) rfl (fun K hK => ?_) AllReadyH.nil
              go_simp
              go_at_call 71
              refine (object_any8 q w1.heap.size _ (HD.out.later (Below.refl _ wr).drew) (by omega)).mono ?_
              rintro e v1 ⟨S, d, rfl, hown, h1, h2⟩
              rw [← HOO.out] at hown ⊢
              have hY : Only w1.heap.size wr v1 := (only_below (Below.refl _ wr).drew).then_ h2
              have hO1 := hY.ownH HD.out HO.out
              have hz1 := hY.size
              obtain ⟨A2, c2, v2, hrun, hO2, hg2⟩ := run_app_obj v1 w.heap.size wr.heap.size A c ls hO1 (by omega) o S d hown HB.out.size (fun i li a hi ha => HO.out.blk_lt hi ha) (Nat.le_trans HB.out.size hz1)
              have h71 := hY.lies H7.out n7g
              have hK1 := hY.lies HK.out nkg
              have hB1 := hY.from_ HB.out HWG.out HB.out.size
              have hal := below_alloc v1 (.cells (obC o S d) 46)
              have gw := h71.cell 0
              simp only [List.getElem?_toArray, List.getElem?_cons_zero] at gw
              have gx := cell_old (ob := .cells (obC o S d) 46) gw
              unfold obC at gx
              have hP2 := lies_grown hg2 (h71.later hal) (own_blk_ne (own_later hO1.row hal) (h71.later hal) (by decide))
              have hK2 := lies_grown hg2 (hK1.later hal) (own_blk_ne (own_later hO1.row hal) (hK1.later hal) (by decide))
              have hR2 : RdL v2 w1.heap.size (obR q) := lies_grown hg2 (Lies.later h1 hal) (own_blk_ne (own_later hO1.row hal) (Lies.later h1 hal) (by decide))
              have hB2 := (hB1.trans (hal.mono (Nat.le_trans HB.out.size hz1))).grown hg2 (by simp; exact Nat.le_succ_of_le (Nat.le_trans HB.out.size hz1)) (fun q hq => (hO1.row.lt q hq).1)
              have p0 := hP2.cell 0
              have pf0 := hP2.frozen 0
              simp only [List.getElem?_toArray, List.getElem?_cons_zero] at p0
              have HRUN := hid hrun
              have HO2 := hid hO2
              have HP2 := hid hP2
              have HK2 := hid hK2
              have HR2 := hid hR2
              have HB2 := hid hB2
              clear hown hY hO1 hrun hO2 hg2 h71 hK1 hB1 hal hP2 hK2 hR2 hB2 h1 h2 hz1
              refine hK.out _ _ ?_ (fun hH2 => ?_)
              · exact trivial
              clear hK K
              try simp only [Act.put, List.setIfInBounds_toArray, List.set_cons_zero, List.set_cons_succ]
              refine wpAnyH_ready (rs := [4]) (by kernel_rfl) (by simp) ?_
              refine AllReadyH.cons (i := 4) (o := { dst := some 60, op := Go.Op.buildSlice 22 1 #[(0, Go.Operand.tmp 59)], type := 22, pos := "ref.go:138", after := #[{ on := 3, ground := Go.Ground.data }], guard := none }) rfl (fun K hK => ?_) AllReadyH.nil
              go_simp
              refine hK.out _ _ ?_ (fun hH3 => ?_)
              · exact trivial
              clear hK K
              try simp only [Act.put, List.setIfInBounds_toArray, List.set_cons_zero, List.set_cons_succ]
              refine wpAnyH_ready (rs := [5]) (by kernel_rfl) (by simp) ?_
              refine AllReadyH.cons (i := 5) (o := { dst := some 61, op := Go.Op.call { callee := Go.Callee.builtin Go.Builtin.append, args := #[Go.Operand.tmp 57, Go.Operand.tmp 60], argTypes := #[22, 22] }, type := 22, pos := "ref.go:138", after := #[{ on := 1, ground := Go.Ground.data }, { on := 4, ground := Go.Ground.data }, { on := 3, ground := Go.Ground.chain }], guard := none }) rfl (fun K hK => ?_) AllReadyH.nil
              rw [if_pos (by rfl)]
              refine wp_app_run (.tmp 57) (.tmp 60) 22 rfl _ _ HRUN.out ?_
              refine hK.out _ _ ?_ (fun hH4 => ?_)
              · exact trivial
              clear hK K
              try simp only [Act.put, List.setIfInBounds_toArray, List.set_cons_zero, List.set_cons_succ]
              refine wpAnyH_take (i := 6) (oi := { dst := some 62, op := Go.Op.fieldAddr 24 (Go.Operand.tmp 7) 0, type := 0, pos := "ref.go:138", after := #[{ on := 0, ground := Go.Ground.phase }, { on := 1, ground := Go.Ground.phase }, { on := 2, ground := Go.Ground.phase }, { on := 3, ground := Go.Ground.phase }, { on := 4, ground := Go.Ground.phase }, { on := 5, ground := Go.Ground.phase }], guard := none }) (v := ?vv10) rfl (by kernel_rfl) (by kernel_rfl) (by kernel_rfl) (fun _ _ _ h => h) (Or.inl ⟨by rfl, ?hy10⟩) (by assumption) ?rr10
              case hy10 => intro w hSw; (try dsimp only at hSw); go_simp; all_goals with_reducible rfl
              try simp only [Act.put, List.setIfInBounds_toArray, List.set_cons_zero, List.set_cons_succ]
              refine wpAnyH_ready (rs := [7]) (by kernel_rfl) (by simp) ?_
              refine AllReadyH.cons (i := 7) (o := { dst := none, op := Go.Op.store 22 (Go.Operand.tmp 62) (Go.Operand.tmp 61), type := 0, pos := "ref.go:138", after := #[{ on := 6, ground := Go.Ground.data }, { on := 5, ground := Go.Ground.data }, { on := 5, ground := Go.Ground.chain }, { on := 0, ground := Go.Ground.phase }, { on := 1, ground := Go.Ground.phase }, { on := 2, ground := Go.Ground.phase }, { on := 3, ground := Go.Ground.phase }, { on := 4, ground := Go.Ground.phase }, { on := 5, ground := Go.Ground.phase }], guard := none }) rfl (fun K hK => ?_) AllReadyH.nil
              go_simp
              refine hK.out _ _ ?_ (fun hH5 => ?_)
              · exact trivial
              clear hK K
              try simp only [Act.put, List.setIfInBounds_toArray, List.set_cons_zero, List.set_cons_succ]
              refine wpAnyH_done (by kernel_rfl) ?_ _
              go_wp2_with fail
              go_roundw
              case rel =>
                refine ⟨k + 1, A2, c2, ls ++ [⟨o, S, d⟩], by omega, by go_num, ?_, hid (by rw [List.map_append, HLS.out, S1.out]; rfl), HO2.out.off HP2.out 0 _, by rw [S2.out]; exact HR2.out.far (p := ⟨w2.heap.size, 0, none⟩) n7g.symm _, HB2.out.setCell (p := ⟨w2.heap.size, 0, none⟩) HW7.out _, HK2.out.far (p := ⟨w2.heap.size, 0, none⟩) nk7 _⟩
                rw [List.length_append]
                simpa using HP2.out.set_ 0 (.slice A2 (ls.length + 1) c2)
              case measure => simp only [intOf]; omega
            · go_simp
              go_at_call 71
              refine (object_any8 q w1.heap.size _ (HD.out.later (Below.refl _ wr).drew) (by omega)).mono ?_
              rintro e v1 ⟨S, d, rfl, hown, h1, h2⟩
              rw [← HOO.out] at hown ⊢
              have hY : Only w1.heap.size wr v1 := (only_below (Below.refl _ wr).drew).then_ h2
              have hO1 := hY.ownH HD.out HO.out
              have hz1 := hY.size
              obtain ⟨A2, c2, v2, hrun, hO2, hg2⟩ := run_app_obj v1 w.heap.size wr.heap.size A c ls hO1 (by omega) o S d hown HB.out.size (fun i li a hi ha => HO.out.blk_lt hi ha) (Nat.le_trans HB.out.size hz1)
              have h71 := hY.lies H7.out n7g
              have hK1 := hY.lies HK.out nkg
              have hB1 := hY.from_ HB.out HWG.out HB.out.size
              have hal := below_alloc v1 (.cells (obC o S d) 46)
              have gw := h71.cell 0
              simp only [List.getElem?_toArray, List.getElem?_cons_zero] at gw
              have gx := cell_old (ob := .cells (obC o S d) 46) gw
              unfold obC at gx
              have hP2 := lies_grown hg2 (h71.later hal) (own_blk_ne (own_later hO1.row hal) (h71.later hal) (by decide))
              have hK2 := lies_grown hg2 (hK1.later hal) (own_blk_ne (own_later hO1.row hal) (hK1.later hal) (by decide))
              have hR2 : RdL v2 w1.heap.size (obR q) := lies_grown hg2 (Lies.later h1 hal) (own_blk_ne (own_later hO1.row hal) (Lies.later h1 hal) (by decide))
              have hB2 := (hB1.trans (hal.mono (Nat.le_trans HB.out.size hz1))).grown hg2 (by simp; exact Nat.le_succ_of_le (Nat.le_trans HB.out.size hz1)) (fun q hq => (hO1.row.lt q hq).1)
              have p0 := hP2.cell 0
              have pf0 := hP2.frozen 0
              simp only [List.getElem?_toArray, List.getElem?_cons_zero] at p0
              have HRUN := hid hrun
              have HO2 := hid hO2
              have HP2 := hid hP2
              have HK2 := hid hK2
              have HR2 := hid hR2
              have HB2 := hid hB2
              clear hown hY hO1 hrun hO2 hg2 h71 hK1 hB1 hal hP2 hK2 hR2 hB2 h1 h2 hz1
              refine hK.out _ _ ?_ (fun hH1 => ?_)
              · exact trivial
              clear hK K
              try simp only [Act.put, List.setIfInBounds_toArray, List.set_cons_zero, List.set_cons_succ]
              refine wpAnyH_ready (rs := [1, 4]) (by kernel_rfl) (by simp) ?_
              refine AllReadyH.cons (i := 1) (o := { dst := some 57, op := Go.Op.load 22 (Go.Operand.tmp 56), type := 22, pos := "ref.go:138", after := #[{ on := 0, ground := Go.Ground.data }], guard := none }) rfl (fun K hK => ?_) (AllReadyH.cons (i := 4) (o := { dst := some 60, op := Go.Op.buildSlice 22 1 #[(0, Go.Operand.tmp 59)], type := 22, pos := "ref.go:138", after := #[{ on := 3, ground := Go.Ground.data }], guard := none }) rfl (fun K hK => ?_) AllReadyH.nil)
              · go_simp
                refine hK.out _ _ ?_ (fun hH2 => ?_)
                · exact trivial
                clear hK K
                try simp only [Act.put, List.setIfInBounds_toArray, List.set_cons_zero, List.set_cons_succ]
                refine wpAnyH_ready (rs := [4]) (by kernel_rfl) (by simp) ?_
                refine AllReadyH.cons (i := 4) (o := { dst := some 60, op := Go.Op.buildSlice 22 1 #[(0, Go.Operand.tmp 59)], type := 22, pos := "ref.go:138", after := #[{ on := 3, ground := Go.Ground.data }], guard := none }) rfl (fun K hK => ?_) AllReadyH.nil
                go_simp
                refine hK.out _ _ ?_ (fun hH3 => ?_)
                · exact trivial
                clear hK K
                try simp only [Act.put, List.setIfInBounds_toArray, List.set_cons_zero, List.set_cons_succ]
                refine wpAnyH_ready (rs := [5]) (by kernel_rfl) (by simp) ?_
                refine AllReadyH.cons (i := 5) (o := { dst := some 61, op := Go.Op.call { callee := Go.Callee.builtin Go.Builtin.append, args := #[Go.Operand.tmp 57, Go.Operand.tmp 60], argTypes := #[22, 22] }, type := 22, pos := "ref.go:138", after := #[{ on := 1, ground := Go.Ground.data }, { on := 4, ground := Go.Ground.data }, { on := 3, ground := Go.Ground.chain }], guard := none }) rfl (fun K hK => ?_) AllReadyH.nil
                rw [if_pos (by rfl)]
                refine wp_app_run (.tmp 57) (.tmp 60) 22 rfl _ _ HRUN.out ?_
                refine hK.out _ _ ?_ (fun hH4 => ?_)
                · exact trivial
                clear hK K
                try simp only [Act.put, List.setIfInBounds_toArray, List.set_cons_zero, List.set_cons_succ]
                refine wpAnyH_take (i := 6) (oi := { dst := some 62, op := Go.Op.fieldAddr 24 (Go.Operand.tmp 7) 0, type := 0, pos := "ref.go:138", after := #[{ on := 0, ground := Go.Ground.phase }, { on := 1, ground := Go.Ground.phase }, { on := 2, ground := Go.Ground.phase }, { on := 3, ground := Go.Ground.phase }, { on := 4, ground := Go.Ground.phase }, { on := 5, ground := Go.Ground.phase }], guard := none }) (v := ?vv11) rfl (by kernel_rfl) (by kernel_rfl) (by kernel_rfl) (fun _ _ _ h => h) (Or.inl ⟨by rfl, ?hy11⟩) (by assumption) ?rr11
                case hy11 => intro w hSw; (try dsimp only at hSw); go_simp; all_goals with_reducible rfl
                try simp only [Act.put, List.setIfInBounds_toArray, List.set_cons_zero, List.set_cons_succ]
                refine wpAnyH_ready (rs := [7]) (by kernel_rfl) (by simp) ?_
                refine AllReadyH.cons (i := 7) (o := { dst := none, op := Go.Op.store 22 (Go.Operand.tmp 62) (Go.Operand.tmp 61), type := 0, pos := "ref.go:138", after := #[{ on := 6, ground := Go.Ground.data }, { on := 5, ground := Go.Ground.data }, { on := 5, ground := Go.Ground.chain }, { on := 0, ground := Go.Ground.phase }, { on := 1, ground := Go.Ground.phase }, { on := 2, ground := Go.Ground.phase }, { on := 3, ground := Go.Ground.phase }, { on := 4, ground := Go.Ground.phase }, { on := 5, ground := Go.Ground.phase }], guard := none }) rfl (fun K hK => ?_) AllReadyH.nil
                go_simp
                refine hK.out _ _ ?_ (fun hH5 => ?_)
                · exact trivial
                clear hK K
                try simp only [Act.put, List.setIfInBounds_toArray, List.set_cons_zero, List.set_cons_succ]
                refine wpAnyH_done (by kernel_rfl) ?_ _
                go_wp2_with fail
                go_roundw
                case rel =>
                  refine ⟨k + 1, A2, c2, ls ++ [⟨o, S, d⟩], by omega, by go_num, ?_, hid (by rw [List.map_append, HLS.out, S1.out]; rfl), HO2.out.off HP2.out 0 _, by rw [S2.out]; exact HR2.out.far (p := ⟨w2.heap.size, 0, none⟩) n7g.symm _, HB2.out.setCell (p := ⟨w2.heap.size, 0, none⟩) HW7.out _, HK2.out.far (p := ⟨w2.heap.size, 0, none⟩) nk7 _⟩
                  rw [List.length_append]
                  simpa using HP2.out.set_ 0 (.slice A2 (ls.length + 1) c2)
                case measure => simp only [intOf]; omega
              · go_simp
                refine hK.out _ _ ?_ (fun hH2 => ?_)
                · exact trivial
                clear hK K
                try simp only [Act.put, List.setIfInBounds_toArray, List.set_cons_zero, List.set_cons_succ]
                refine wpAnyH_ready (rs := [1]) (by kernel_rfl) (by simp) ?_
                refine AllReadyH.cons (i := 1) (o := { dst := some 57, op := Go.Op.load 22 (Go.Operand.tmp 56), type := 22, pos := "ref.go:138", after := #[{ on := 0, ground := Go.Ground.data }], guard := none }) rfl (fun K hK => ?_) AllReadyH.nil
                go_simp
                refine hK.out _ _ ?_ (fun hH3 => ?_)
                · exact trivial
                clear hK K
                try simp only [Act.put, List.setIfInBounds_toArray, List.set_cons_zero, List.set_cons_succ]
                refine wpAnyH_ready (rs := [5]) (by kernel_rfl) (by simp) ?_
                refine AllReadyH.cons (i := 5) (o := { dst := some 61, op := Go.Op.call { callee := Go.Callee.builtin Go.Builtin.append, args := #[Go.Operand.tmp 57, Go.Operand.tmp 60], argTypes := #[22, 22] }, type := 22, pos := "ref.go:138", after := #[{ on := 1, ground := Go.Ground.data }, { on := 4, ground := Go.Ground.data }, { on := 3, ground := Go.Ground.chain }], guard := none }) rfl (fun K hK => ?_) AllReadyH.nil
                rw [if_pos (by rfl)]
                refine wp_app_run (.tmp 57) (.tmp 60) 22 rfl _ _ HRUN.out ?_
                refine hK.out _ _ ?_ (fun hH4 => ?_)
                · exact trivial
                clear hK K
                try simp only [Act.put, List.setIfInBounds_toArray, List.set_cons_zero, List.set_cons_succ]
                refine wpAnyH_take (i := 6) (oi := { dst := some 62, op := Go.Op.fieldAddr 24 (Go.Operand.tmp 7) 0, type := 0, pos := "ref.go:138", after := #[{ on := 0, ground := Go.Ground.phase }, { on := 1, ground := Go.Ground.phase }, { on := 2, ground := Go.Ground.phase }, { on := 3, ground := Go.Ground.phase }, { on := 4, ground := Go.Ground.phase }, { on := 5, ground := Go.Ground.phase }], guard := none }) (v := ?vv12) rfl (by kernel_rfl) (by kernel_rfl) (by kernel_rfl) (fun _ _ _ h => h) (Or.inl ⟨by rfl, ?hy12⟩) (by assumption) ?rr12
                case hy12 => intro w hSw; (try dsimp only at hSw); go_simp; all_goals with_reducible rfl
                try simp only [Act.put, List.setIfInBounds_toArray, List.set_cons_zero, List.set_cons_succ]
                refine wpAnyH_ready (rs := [7]) (by kernel_rfl) (by simp) ?_
                refine AllReadyH.cons (i := 7) (o := { dst := none, op := Go.Op.store 22 (Go.Operand.tmp 62) (Go.Operand.tmp 61), type := 0, pos := "ref.go:138", after := #[{ on := 6, ground := Go.Ground.data }, { on := 5, ground := Go.Ground.data }, { on := 5, ground := Go.Ground.chain }, { on := 0, ground := Go.Ground.phase }, { on := 1, ground := Go.Ground.phase }, { on := 2, ground := Go.Ground.phase }, { on := 3, ground := Go.Ground.phase }, { on := 4, ground := Go.Ground.phase }, { on := 5, ground := Go.Ground.phase }], guard := none }) rfl (fun K hK => ?_) AllReadyH.nil
                go_simp
                refine hK.out _ _ ?_ (fun hH5 => ?_)
                · exact trivial
                clear hK K
                try simp only [Act.put, List.setIfInBounds_toArray, List.set_cons_zero, List.set_cons_succ]
                refine wpAnyH_done (by kernel_rfl) ?_ _
                go_wp2_with fail
                go_roundw
                case rel =>
                  refine ⟨k + 1, A2, c2, ls ++ [⟨o, S, d⟩], by omega, by go_num, ?_, hid (by rw [List.map_append, HLS.out, S1.out]; rfl), HO2.out.off HP2.out 0 _, by rw [S2.out]; exact HR2.out.far (p := ⟨w2.heap.size, 0, none⟩) n7g.symm _, HB2.out.setCell (p := ⟨w2.heap.size, 0, none⟩) HW7.out _, HK2.out.far (p := ⟨w2.heap.size, 0, none⟩) nk7 _⟩
                  rw [List.length_append]
                  simpa using HP2.out.set_ 0 (.slice A2 (ls.length + 1) c2)
                case measure => simp only [intOf]; omega
          · rw [hb] at d1
            obtain ⟨st1, st2⟩ := obs_stop k n.toNat (dc3 t) (by rw [← HQQ.out]; exact hb) hk
            have HQ4 : Hid (dc4 t = q) := by show dc4 t = q; unfold dc4; rw [← Hn.out, st2, ← HQQ.out]
            have HV4 : Hid (ls.map (·.o) = obsV n.toNat (dc3 t)) := by show _ = _; rw [HLS.out, st1]
            clear st1 st2
            have HHH : Hid (dcH t = ⟨ls.map (·.o), cp, la⟩) := by
              show dcH t = _
              unfold dcH
              rw [← Hn.out, ← Hcp.out, ← Hla.out, HV4.out]
            obtain ⟨rs, hrs⟩ : ∃ x, x = lsV q := ⟨_, rfl⟩
            have HRS : Hid (rs = dcL t) := by show _ = _; rw [hrs]; unfold dcL; rw [HQ4.out]
            have HRR : Hid (dcR t = lsR q) := by show _ = _; unfold dcR; rw [HQ4.out]
            have hrl : rs.length ≤ 100010 := by rw [hrs]; have := ls_short q; omega
            have HR0 := hid hrs
            clear hrs
            go_wp2_with fail
            refine (list_any8 q w1.heap.size _ HD.out (by omega)).mono ?_
            rintro e w9 ⟨A5, c5, rfl, ho, h1, h2⟩
            rw [← HR0.out] at ho ⊢
            have HO9 := hid (h2.ownH HD.out HO.out)
            have H79 := hid (h2.lies H7.out n7g)
            have HK9 := hid (h2.lies HK.out nkg)
            have HB9 := hid (h2.from_ HB.out HWG.out HB.out.size)
            have HI9 := hid (own_lower ho HB.out.size)
            have d9 := Lies.cell h1 1
            simp only [rdC, List.getElem?_toArray, List.getElem?_cons_zero, List.getElem?_cons_succ] at d9
            obtain ⟨hh, hhh⟩ : ∃ x : Hp, x = ⟨ls.map (·.o), cp, la⟩ := ⟨_, rfl⟩
            have HHO : Hid (ls.map (·.o) = hh.objs) := by show _ = _; rw [hhh]
            have HHD : Hid (dcH t = hh) := by show _ = _; rw [hhh]; exact HHH.out
            have hel : ls.length = hh.objs.length := by rw [← HHO.out, List.length_map]
            have hcp : cp = hh.cap := by rw [hhh]
            have hla : la = hh.last := by rw [hhh]
            have HFT : Hid hh.Fit := by
              show hh.Fit
              refine ⟨by omega, fun o ho => ?_⟩
              rw [← HHO.out, HV4.out] at ho
              have := obs_fit _ _ o ho
              show o.slots.length ≤ _
              omega
            rw [hel, hcp, hla] at H79
            have HEL := hid hel
            clear h1 h2 ho hhh hel hcp hla
            cases hbd : (lsR q).bad
            · rw [hbd] at d9
              have c0 := H79.out.cell 0
              have c1 := H79.out.cell 1
              have c2 := H79.out.cell 2
              simp only [List.getElem?_toArray, List.getElem?_cons_zero, List.getElem?_cons_succ] at c0 c1 c2
              have HBD : Hid (¬ (dcR t).bad = true) := by show ¬ _; rw [HRR.out, hbd]; decide
              go_wp2_with fail
              refine (renc_any8 hh rs A A5 c c5 _ (own_obs HO9.out HHO.out) HFT.out (own_ints HI9.out) (by omega)).mono ?_
              rintro e w10 ⟨rfl, hb⟩
              have HB10 := hid (HB9.out.trans (hb.mono HB9.out.size))
              have HK10 := hid (HK9.out.later hb)
              have H710 := hid (H79.out.later hb)
              have HO10 := hid (HO9.out.later hb)
              have HI10 := hid (own_later HI9.out hb)
              clear hb c0 c1 c2 d9
              by_cases he : encE hh rs = l
              · have E0 : Hid (deE l = 0) := by
                  show deE l = 0
                  obtain ⟨f1, f2⟩ := E1.out
                  unfold deE
                  rw [if_neg f1, if_neg f2, if_neg]
                  rw [← HTT.out, HHD.out, ← HRS.out, not_or]
                  exact ⟨HBD.out, fun f => f he⟩
                rw [he]
                have q0 := H710.out.cell 0
                have q1 := H710.out.cell 1
                have q2 := H710.out.cell 2
                have k0 := HK10.out.cell 0
                have kf0 := HK10.out.frozen 0
                have k1 := HK10.out.cell 1
                have kf1 := HK10.out.frozen 1
                have k2 := HK10.out.cell 2
                have kf2 := HK10.out.frozen 2
                simp only [List.getElem?_toArray, List.getElem?_cons_zero, List.getElem?_cons_succ] at k0 k1 k2
                simp only [List.getElem?_toArray, List.getElem?_cons_zero, List.getElem?_cons_succ] at q0 q1 q2
                go_wp2_with fail
                have X1 := ((HK10.out.set_ 0 (.slice A hh.objs.length c)).set_ 1 (.int .i64 hh.cap)).set_ 2 (.int .i64 hh.last)
                have r0 := X1.cell 0
                have r1 := X1.cell 1
                have r2 := X1.cell 2
                simp only [List.setIfInBounds_toArray, List.set_cons_zero, List.set_cons_succ, List.getElem?_toArray, List.getElem?_cons_zero, List.getElem?_cons_succ] at r0 r1 r2
                refine bodyPost_ret (v := .tuple #[.agg #[.slice A hh.objs.length c, .int .i64 hh.cap, .int .i64 hh.last], .slice A5 rs.length c5, .int .i64 0]) (by simp [results, Try.results38, go_sem, r0, r1, r2]) rfl ?_
                obtain ⟨f1, f2⟩ := de_yes E0.out
                rw [← HTT.out, HHD.out] at f1
                rw [← HTT.out, ← HRS.out] at f2
                refine ⟨A, c, A5, c5, ls, ?_, ?_, ?_, ?_, ?_⟩
                · rw [f1, f2, E0.out]
                · rw [f1]; exact HHO.out
                · exact ((HO10.out.off HK10.out 0 (.slice A hh.objs.length c)).off (HK10.out.set_ 0 (.slice A hh.objs.length c)) 1 (.int .i64 hh.cap)).off ((HK10.out.set_ 0 (.slice A hh.objs.length c)).set_ 1 (.int .i64 hh.cap)) 2 (.int .i64 hh.last)
                · rw [f2]
                  exact ownsRow_setCell_other (ownsRow_setCell_other (ownsRow_setCell_other HI10.out (own_blk_ne HI10.out HK10.out (by decide)) _) (own_blk_ne HI10.out HK10.out (by decide)) _) (own_blk_ne HI10.out HK10.out (by decide)) _
                · exact (((HB10.out.setCell (p := ⟨w.heap.size, 0, none⟩) (Nat.le_refl _) _).setCell (p := ⟨w.heap.size, 1, none⟩) (Nat.le_refl _) _).setCell (p := ⟨w.heap.size, 2, none⟩) (Nat.le_refl _) _)
              · have E : Hid (deE l = 82) := by
                  show deE l = 82
                  obtain ⟨f1, f2⟩ := E1.out
                  unfold deE
                  rw [if_neg f1, if_neg f2, if_pos]
                  rw [← HTT.out, HHD.out, ← HRS.out]
                  exact .inr he
                obtain ⟨z, hz⟩ : ∃ z, z = encE hh rs := ⟨_, rfl⟩
                rw [← hz] at he ⊢
                have g1 : ¬ (str z).toList = (str l).toList := fun e => he (str_inj e)
                have g2 : ((str z).toList == (str l).toList) = false := beq_eq_false_iff_ne.2 g1
                clear hz
                have k0 := HK10.out.cell 0
                have kf0 := HK10.out.frozen 0
                have k1 := HK10.out.cell 1
                have kf1 := HK10.out.frozen 1
                have k2 := HK10.out.cell 2
                have kf2 := HK10.out.frozen 2
                simp only [List.getElem?_toArray, List.getElem?_cons_zero, List.getElem?_cons_succ] at k0 k1 k2
                go_wp2_with fail
                have X1 := ((HK10.out.set_ 0 (.slice none 0 0)).set_ 1 (.int .i64 0)).set_ 2 (.int .i64 0)
                have r0 := X1.cell 0
                have r1 := X1.cell 1
                have r2 := X1.cell 2
                simp only [List.setIfInBounds_toArray, List.set_cons_zero, List.set_cons_succ, List.getElem?_toArray, List.getElem?_cons_zero, List.getElem?_cons_succ] at r0 r1 r2
                refine bodyPost_ret (v := .tuple #[.agg #[.slice none 0 0, .int .i64 0, .int .i64 0], .slice none 0 0, .int .i64 82]) (by simp [results, Try.results38, go_sem, r0, r1, r2]) rfl ?_
                exact dec_err (E.out) (by decide) (((HB10.out.setCell (p := ⟨w.heap.size, 0, none⟩) (Nat.le_refl _) (.slice none 0 0)).setCell (p := ⟨w.heap.size, 1, none⟩) (Nat.le_refl _) (.int .i64 0)).setCell (p := ⟨w.heap.size, 2, none⟩) (Nat.le_refl _) (.int .i64 0))
            · rw [hbd] at d9
              have E : Hid (deE l = 82) := by
                show deE l = 82
                obtain ⟨f1, f2⟩ := E1.out
                unfold deE
                rw [if_neg f1, if_neg f2, if_pos]
                rw [← HTT.out]
                exact .inl (by rw [HRR.out]; exact hbd)
              have k0 := HK9.out.cell 0
              have kf0 := HK9.out.frozen 0
              have k1 := HK9.out.cell 1
              have kf1 := HK9.out.frozen 1
              have k2 := HK9.out.cell 2
              have kf2 := HK9.out.frozen 2
              simp only [List.getElem?_toArray, List.getElem?_cons_zero, List.getElem?_cons_succ] at k0 k1 k2
              go_wp2_with fail
              have X1 := ((HK9.out.set_ 0 (.slice none 0 0)).set_ 1 (.int .i64 0)).set_ 2 (.int .i64 0)
              have r0 := X1.cell 0
              have r1 := X1.cell 1
              have r2 := X1.cell 2
              simp only [List.setIfInBounds_toArray, List.set_cons_zero, List.set_cons_succ, List.getElem?_toArray, List.getElem?_cons_zero, List.getElem?_cons_succ] at r0 r1 r2
              refine bodyPost_ret (v := .tuple #[.agg #[.slice none 0 0, .int .i64 0, .int .i64 0], .slice none 0 0, .int .i64 82]) (by simp [results, Try.results38, go_sem, r0, r1, r2]) rfl ?_
              exact dec_err (E.out) (by decide) (((HB9.out.setCell (p := ⟨w.heap.size, 0, none⟩) (Nat.le_refl _) (.slice none 0 0)).setCell (p := ⟨w.heap.size, 1, none⟩) (Nat.le_refl _) (.int .i64 0)).setCell (p := ⟨w.heap.size, 2, none⟩) (Nat.le_refl _) (.int .i64 0))
        · obtain rfl : k = n.toNat := by omega
          have hno : ¬ ((n.toNat : Nat) : Int) < n := by omega
          have HQ4 : Hid (dc4 t = q) := by show dc4 t = q; unfold dc4; rw [← Hn.out, ← HQQ.out]
          have HV4 : Hid (ls.map (·.o) = obsV n.toNat (dc3 t)) := HLS
          have HHH : Hid (dcH t = ⟨ls.map (·.o), cp, la⟩) := by
            show dcH t = _
            unfold dcH
            rw [← Hn.out, ← Hcp.out, ← Hla.out, HV4.out]
          obtain ⟨rs, hrs⟩ : ∃ x, x = lsV q := ⟨_, rfl⟩
          have HRS : Hid (rs = dcL t) := by show _ = _; rw [hrs]; unfold dcL; rw [HQ4.out]
          have HRR : Hid (dcR t = lsR q) := by show _ = _; unfold dcR; rw [HQ4.out]
          have hrl : rs.length ≤ 100010 := by rw [hrs]; have := ls_short q; omega
          have HR0 := hid hrs
          clear hrs
          go_wp2_with fail
          refine (list_any8 q w1.heap.size _ HD.out (by omega)).mono ?_
          rintro e w9 ⟨A5, c5, rfl, ho, h1, h2⟩
          rw [← HR0.out] at ho ⊢
          have HO9 := hid (h2.ownH HD.out HO.out)
          have H79 := hid (h2.lies H7.out n7g)
          have HK9 := hid (h2.lies HK.out nkg)
          have HB9 := hid (h2.from_ HB.out HWG.out HB.out.size)
          have HI9 := hid (own_lower ho HB.out.size)
          have d9 := Lies.cell h1 1
          simp only [rdC, List.getElem?_toArray, List.getElem?_cons_zero, List.getElem?_cons_succ] at d9
          obtain ⟨hh, hhh⟩ : ∃ x : Hp, x = ⟨ls.map (·.o), cp, la⟩ := ⟨_, rfl⟩
          have HHO : Hid (ls.map (·.o) = hh.objs) := by show _ = _; rw [hhh]
          have HHD : Hid (dcH t = hh) := by show _ = _; rw [hhh]; exact HHH.out
          have hel : ls.length = hh.objs.length := by rw [← HHO.out, List.length_map]
          have hcp : cp = hh.cap := by rw [hhh]
          have hla : la = hh.last := by rw [hhh]
          have HFT : Hid hh.Fit := by
            show hh.Fit
            refine ⟨by omega, fun o ho => ?_⟩
            rw [← HHO.out, HV4.out] at ho
            have := obs_fit _ _ o ho
            show o.slots.length ≤ _
            omega
          rw [hel, hcp, hla] at H79
          have HEL := hid hel
          clear h1 h2 ho hhh hel hcp hla
          cases hbd : (lsR q).bad
          · rw [hbd] at d9
            have c0 := H79.out.cell 0
            have c1 := H79.out.cell 1
            have c2 := H79.out.cell 2
            simp only [List.getElem?_toArray, List.getElem?_cons_zero, List.getElem?_cons_succ] at c0 c1 c2
            have HBD : Hid (¬ (dcR t).bad = true) := by show ¬ _; rw [HRR.out, hbd]; decide
            go_wp2_with fail
            refine (renc_any8 hh rs A A5 c c5 _ (own_obs HO9.out HHO.out) HFT.out (own_ints HI9.out) (by omega)).mono ?_
            rintro e w10 ⟨rfl, hb⟩
            have HB10 := hid (HB9.out.trans (hb.mono HB9.out.size))
            have HK10 := hid (HK9.out.later hb)
            have H710 := hid (H79.out.later hb)
            have HO10 := hid (HO9.out.later hb)
            have HI10 := hid (own_later HI9.out hb)
            clear hb c0 c1 c2 d9
            by_cases he : encE hh rs = l
            · have E0 : Hid (deE l = 0) := by
                show deE l = 0
                obtain ⟨f1, f2⟩ := E1.out
                unfold deE
                rw [if_neg f1, if_neg f2, if_neg]
                rw [← HTT.out, HHD.out, ← HRS.out, not_or]
                exact ⟨HBD.out, fun f => f he⟩
              rw [he]
              have q0 := H710.out.cell 0
              have q1 := H710.out.cell 1
              have q2 := H710.out.cell 2
              have k0 := HK10.out.cell 0
              have kf0 := HK10.out.frozen 0
              have k1 := HK10.out.cell 1
              have kf1 := HK10.out.frozen 1
              have k2 := HK10.out.cell 2
              have kf2 := HK10.out.frozen 2
              simp only [List.getElem?_toArray, List.getElem?_cons_zero, List.getElem?_cons_succ] at k0 k1 k2
              simp only [List.getElem?_toArray, List.getElem?_cons_zero, List.getElem?_cons_succ] at q0 q1 q2
              go_wp2_with fail
              have X1 := ((HK10.out.set_ 0 (.slice A hh.objs.length c)).set_ 1 (.int .i64 hh.cap)).set_ 2 (.int .i64 hh.last)
              have r0 := X1.cell 0
              have r1 := X1.cell 1
              have r2 := X1.cell 2
              simp only [List.setIfInBounds_toArray, List.set_cons_zero, List.set_cons_succ, List.getElem?_toArray, List.getElem?_cons_zero, List.getElem?_cons_succ] at r0 r1 r2
              refine bodyPost_ret (v := .tuple #[.agg #[.slice A hh.objs.length c, .int .i64 hh.cap, .int .i64 hh.last], .slice A5 rs.length c5, .int .i64 0]) (by simp [results, Try.results38, go_sem, r0, r1, r2]) rfl ?_
              obtain ⟨f1, f2⟩ := de_yes E0.out
              rw [← HTT.out, HHD.out] at f1
              rw [← HTT.out, ← HRS.out] at f2
              refine ⟨A, c, A5, c5, ls, ?_, ?_, ?_, ?_, ?_⟩
              · rw [f1, f2, E0.out]
              · rw [f1]; exact HHO.out
              · exact ((HO10.out.off HK10.out 0 (.slice A hh.objs.length c)).off (HK10.out.set_ 0 (.slice A hh.objs.length c)) 1 (.int .i64 hh.cap)).off ((HK10.out.set_ 0 (.slice A hh.objs.length c)).set_ 1 (.int .i64 hh.cap)) 2 (.int .i64 hh.last)
              · rw [f2]
                exact ownsRow_setCell_other (ownsRow_setCell_other (ownsRow_setCell_other HI10.out (own_blk_ne HI10.out HK10.out (by decide)) _) (own_blk_ne HI10.out HK10.out (by decide)) _) (own_blk_ne HI10.out HK10.out (by decide)) _
              · exact (((HB10.out.setCell (p := ⟨w.heap.size, 0, none⟩) (Nat.le_refl _) _).setCell (p := ⟨w.heap.size, 1, none⟩) (Nat.le_refl _) _).setCell (p := ⟨w.heap.size, 2, none⟩) (Nat.le_refl _) _)
            · have E : Hid (deE l = 82) := by
                show deE l = 82
                obtain ⟨f1, f2⟩ := E1.out
                unfold deE
                rw [if_neg f1, if_neg f2, if_pos]
                rw [← HTT.out, HHD.out, ← HRS.out]
                exact .inr he
              obtain ⟨z, hz⟩ : ∃ z, z = encE hh rs := ⟨_, rfl⟩
              rw [← hz] at he ⊢
              have g1 : ¬ (str z).toList = (str l).toList := fun e => he (str_inj e)
              have g2 : ((str z).toList == (str l).toList) = false := beq_eq_false_iff_ne.2 g1
              clear hz
              have k0 := HK10.out.cell 0
              have kf0 := HK10.out.frozen 0
              have k1 := HK10.out.cell 1
              have kf1 := HK10.out.frozen 1
              have k2 := HK10.out.cell 2
              have kf2 := HK10.out.frozen 2
              simp only [List.getElem?_toArray, List.getElem?_cons_zero, List.getElem?_cons_succ] at k0 k1 k2
              go_wp2_with fail
              have X1 := ((HK10.out.set_ 0 (.slice none 0 0)).set_ 1 (.int .i64 0)).set_ 2 (.int .i64 0)
              have r0 := X1.cell 0
              have r1 := X1.cell 1
              have r2 := X1.cell 2
              simp only [List.setIfInBounds_toArray, List.set_cons_zero, List.set_cons_succ, List.getElem?_toArray, List.getElem?_cons_zero, List.getElem?_cons_succ] at r0 r1 r2
              refine bodyPost_ret (v := .tuple #[.agg #[.slice none 0 0, .int .i64 0, .int .i64 0], .slice none 0 0, .int .i64 82]) (by simp [results, Try.results38, go_sem, r0, r1, r2]) rfl ?_
              exact dec_err (E.out) (by decide) (((HB10.out.setCell (p := ⟨w.heap.size, 0, none⟩) (Nat.le_refl _) (.slice none 0 0)).setCell (p := ⟨w.heap.size, 1, none⟩) (Nat.le_refl _) (.int .i64 0)).setCell (p := ⟨w.heap.size, 2, none⟩) (Nat.le_refl _) (.int .i64 0))
          · rw [hbd] at d9
            have E : Hid (deE l = 82) := by
              show deE l = 82
              obtain ⟨f1, f2⟩ := E1.out
              unfold deE
              rw [if_neg f1, if_neg f2, if_pos]
              rw [← HTT.out]
              exact .inl (by rw [HRR.out]; exact hbd)
            have k0 := HK9.out.cell 0
            have kf0 := HK9.out.frozen 0
            have k1 := HK9.out.cell 1
            have kf1 := HK9.out.frozen 1
            have k2 := HK9.out.cell 2
            have kf2 := HK9.out.frozen 2
            simp only [List.getElem?_toArray, List.getElem?_cons_zero, List.getElem?_cons_succ] at k0 k1 k2
            go_wp2_with fail
            have X1 := ((HK9.out.set_ 0 (.slice none 0 0)).set_ 1 (.int .i64 0)).set_ 2 (.int .i64 0)
            have r0 := X1.cell 0
            have r1 := X1.cell 1
            have r2 := X1.cell 2
            simp only [List.setIfInBounds_toArray, List.set_cons_zero, List.set_cons_succ, List.getElem?_toArray, List.getElem?_cons_zero, List.getElem?_cons_succ] at r0 r1 r2
            refine bodyPost_ret (v := .tuple #[.agg #[.slice none 0 0, .int .i64 0, .int .i64 0], .slice none 0 0, .int .i64 82]) (by simp [results, Try.results38, go_sem, r0, r1, r2]) rfl ?_
            exact dec_err (E.out) (by decide) (((HB9.out.setCell (p := ⟨w.heap.size, 0, none⟩) (Nat.le_refl _) (.slice none 0 0)).setCell (p := ⟨w.heap.size, 1, none⟩) (Nat.le_refl _) (.int .i64 0)).setCell (p := ⟨w.heap.size, 2, none⟩) (Nat.le_refl _) (.int .i64 0))
    · have E : Hid (deE l = 81) := by
        show deE l = 81
        unfold deE
        rw [if_neg (by omega), if_pos]
        rw [← HTT.out, ← HS4.out, ← HMM.out, ← HN5.out]; exact hq
      have g1 : ¬ (str n5).toList = (str s4).toList := fun e => hq (str_inj e)
      have g2 : ((str n5).toList == (str s4).toList) = false := beq_eq_false_iff_ne.2 g1
      go_upto_region 4 with fail
      refine wp_region_held_drew (S := (fun _ => True)) (by kernel_rfl) ?_ (fun hH0 => ?_)
      · exact trivial
      refine wpAnyH_take (i := 0) (oi := { dst := some 20, op := Go.Op.move (Go.Operand.tmp 5), type := 9, pos := "ref.go:128", after := #[], guard := none }) (v := ?vv1) rfl (by kernel_rfl) (by kernel_rfl) (by kernel_rfl) (fun _ _ _ h => h) (Or.inl ⟨by rfl, ?hy1⟩) (by assumption) ?rr1
      case hy1 => intro w hSw; (try dsimp only at hSw); go_simp; all_goals with_reducible rfl
      try simp only [Act.put, List.setIfInBounds_toArray, List.set_cons_zero, List.set_cons_succ]
      refine wpAnyH_take (i := 3) (oi := { dst := some 23, op := Go.Op.move (Go.Operand.tmp 0), type := 9, pos := "ref.go:128", after := #[], guard := none }) (v := ?vv2) rfl (by kernel_rfl) (by kernel_rfl) (by kernel_rfl) (fun _ _ _ h => h) (Or.inl ⟨by rfl, ?hy2⟩) (by assumption) ?rr2
      case hy2 => intro w hSw; (try dsimp only at hSw); go_simp; all_goals with_reducible rfl
      try simp only [Act.put, List.setIfInBounds_toArray, List.set_cons_zero, List.set_cons_succ]
      refine wpAnyH_take (i := 4) (oi := { dst := some 24, op := Go.Op.move (Go.Operand.tmp 0), type := 9, pos := "ref.go:128", after := #[], guard := none }) (v := ?vv3) rfl (by kernel_rfl) (by kernel_rfl) (by kernel_rfl) (fun _ _ _ h => h) (Or.inl ⟨by rfl, ?hy3⟩) (by assumption) ?rr3
      case hy3 => intro w hSw; (try dsimp only at hSw); go_simp; all_goals with_reducible rfl
      try simp only [Act.put, List.setIfInBounds_toArray, List.set_cons_zero, List.set_cons_succ]
      refine wpAnyH_take (i := 5) (oi := { dst := some 25, op := Go.Op.call { callee := Go.Callee.builtin Go.Builtin.len, args := #[Go.Operand.tmp 24], argTypes := #[9] }, type := 3, pos := "ref.go:128", after := #[{ on := 4, ground := Go.Ground.data }], guard := none }) (v := ?vv4) rfl (by kernel_rfl) (by kernel_rfl) (by kernel_rfl) (fun _ _ _ h => h) (Or.inl ⟨by rfl, ?hy4⟩) (by assumption) ?rr4
      case hy4 => intro w hSw; (try dsimp only at hSw); go_simp; all_goals with_reducible rfl
      try simp only [Act.put, List.setIfInBounds_toArray, List.set_cons_zero, List.set_cons_succ]
      refine wpAnyH_take (i := 6) (oi := { dst := some 26, op := Go.Op.binOp Go.BinOp.sub 3 (Go.Operand.tmp 25) (Go.Operand.const (Go.Value.int Go.IntKind.i64 4)) 3, type := 3, pos := "ref.go:128", after := #[{ on := 5, ground := Go.Ground.data }], guard := none }) (v := ?vv5) rfl (by kernel_rfl) (by kernel_rfl) (by kernel_rfl) (fun _ _ _ h => h) (Or.inl ⟨by rfl, ?hy5⟩) (by assumption) ?rr5
      case hy5 => intro w hSw; (try dsimp only at hSw); go_simp; all_goals with_reducible rfl
      try simp only [Act.put, List.setIfInBounds_toArray, List.set_cons_zero, List.set_cons_succ]
      refine wpAnyH_take (i := 7) (oi := { dst := some 27, op := Go.Op.slice 9 (Go.Operand.tmp 23) (some (Go.Operand.tmp 26)) none none, type := 9, pos := "ref.go:128", after := #[{ on := 3, ground := Go.Ground.data }, { on := 6, ground := Go.Ground.data }], guard := none }) (v := ?vv6) rfl (by kernel_rfl) (by kernel_rfl) (by kernel_rfl) (fun _ _ _ h => h) (Or.inl ⟨by rfl, ?hy6⟩) (by assumption) ?rr6
      case hy6 => intro w hSw; (try dsimp only at hSw); go_simp; all_goals with_reducible rfl
      try simp only [Act.put, List.setIfInBounds_toArray, List.set_cons_zero, List.set_cons_succ]
      refine wpAnyH_ready (rs := [1]) (by kernel_rfl) (by simp) ?_
      refine AllReadyH.cons (i := 1) (o := { dst := some 21, op := Go.Op.call { callee := Go.Callee.value (Go.Operand.func 44), args := #[Go.Operand.tmp 20], argTypes := #[9] }, type := 3, pos := "ref.go:128", after := #[{ on := 0, ground := Go.Ground.data }], guard := none }) rfl (fun K hK => ?_) AllReadyH.nil
      go_simp
      go_at_call 44
      refine (rof_any7 (str t) HSZ.out _).mono ?_
      rintro e v1 ⟨rfl, hv1⟩
      have HV1 := hid (show Below w0.heap.size w0 v1 by rw [← hv1]; exact (Below.refl _ w0).drew)
      clear hv1
      rw [HM1.out]
      refine hK.out _ _ ?_ (fun hH1 => ?_)
      · exact trivial
      clear hK K
      try simp only [Act.put, List.setIfInBounds_toArray, List.set_cons_zero, List.set_cons_succ]
      refine wpAnyH_ready (rs := [2]) (by kernel_rfl) (by simp) ?_
      refine AllReadyH.cons (i := 2) (o := { dst := some 22, op := Go.Op.call { callee := Go.Callee.value (Go.Operand.func 43), args := #[Go.Operand.tmp 21], argTypes := #[3] }, type := 9, pos := "ref.go:128", after := #[{ on := 1, ground := Go.Ground.data }, { on := 1, ground := Go.Ground.chain }], guard := none }) rfl (fun K hK => ?_) AllReadyH.nil
      go_simp
      go_at_call 43
      refine (rbytes_any m _).mono ?_
      rintro e v2 ⟨rfl, hb⟩
      rw [HM2.out]
      have HV2 := hid (then_w HV1.out hb)
      refine hK.out _ _ ?_ (fun hH2 => ?_)
      · exact trivial
      clear hK K
      try simp only [Act.put, List.setIfInBounds_toArray, List.set_cons_zero, List.set_cons_succ]
      clear hb
      refine wpAnyH_take (i := 8) (oi := { dst := some 28, op := Go.Op.binOp Go.BinOp.neq 9 (Go.Operand.tmp 22) (Go.Operand.tmp 27) 9, type := 4, pos := "ref.go:128", after := #[{ on := 2, ground := Go.Ground.data }, { on := 7, ground := Go.Ground.data }], guard := none }) (v := ?vv7) rfl (by kernel_rfl) (by kernel_rfl) (by kernel_rfl) (fun _ _ _ h => h) (Or.inl ⟨by rfl, ?hy7⟩) (by assumption) ?rr7
      case hy7 => intro w hSw; (try dsimp only at hSw); go_simp; all_goals with_reducible rfl
      try simp only [Act.put, List.setIfInBounds_toArray, List.set_cons_zero, List.set_cons_succ]
      refine wpAnyH_done (by kernel_rfl) ?_ _
      obtain ⟨w1, hw1⟩ : ∃ u, u = v2 := ⟨_, rfl⟩
      have hb := HV2.out
      rw [← hw1] at hb ⊢
      have HB1 := hid (HB0.out.trans (hb.mono HB0.out.size))
      have HK1 := hid (HK0.out.later hb)
      clear hb hw1
      have k0 := HK1.out.cell 0
      have kf0 := HK1.out.frozen 0
      have k1 := HK1.out.cell 1
      have kf1 := HK1.out.frozen 1
      have k2 := HK1.out.cell 2
      have kf2 := HK1.out.frozen 2
      simp only [List.getElem?_toArray, List.getElem?_cons_zero, List.getElem?_cons_succ] at k0 k1 k2
      go_wp2_with fail
      have X1 := ((HK1.out.set_ 0 (.slice none 0 0)).set_ 1 (.int .i64 0)).set_ 2 (.int .i64 0)
      have r0 := X1.cell 0
      have r1 := X1.cell 1
      have r2 := X1.cell 2
      simp only [List.setIfInBounds_toArray, List.set_cons_zero, List.set_cons_succ, List.getElem?_toArray, List.getElem?_cons_zero, List.getElem?_cons_succ] at r0 r1 r2
      refine bodyPost_ret (v := .tuple #[.agg #[.slice none 0 0, .int .i64 0, .int .i64 0], .slice none 0 0, .int .i64 81]) (by simp [results, Try.results38, go_sem, r0, r1, r2]) rfl ?_
      exact dec_err (E.out) (by decide) (((HB1.out.setCell (p := ⟨w.heap.size, 0, none⟩) (Nat.le_refl _) (.slice none 0 0)).setCell (p := ⟨w.heap.size, 1, none⟩) (Nat.le_refl _) (.int .i64 0)).setCell (p := ⟨w.heap.size, 2, none⟩) (Nat.le_refl _) (.int .i64 0))
end Go.Proofs.Ythggafdfglojaaa
