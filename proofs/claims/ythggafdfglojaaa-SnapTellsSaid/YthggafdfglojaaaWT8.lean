/- SnapTells walked: whatever heap, roots and bytes, it answers true. -/
import Derived.Test.YthggafdfglojaaaKI8
import Derived.Test.YthggafdfglojaaaMP
import Derived.Test.YthggafdfglojaaaS
namespace Go.Proofs.Ythggafdfglojaaa
open Go.RowKit
set_option maxRecDepth 100000
theorem deH_fit {l : List UInt8} (hl : l.length ≤ 100000) : (deH l).Fit := by
  unfold deH
  split
  · have t3 : (dc3 (l.take (l.length - 4))).s.length ≤ 100000 := by
      refine Nat.le_trans (tkR_len _ 4) (Nat.le_trans (tkR_len _ 4) (Nat.le_trans (tkR_len _ 4) (Nat.le_trans (tkR_len _ 3) ?_)))
      show (l.take (l.length - 4)).length ≤ _
      rw [List.length_take]; omega
    have h := obs_short (nmV (dc2 (l.take (l.length - 4)))).toNat (dc3 (l.take (l.length - 4)))
    refine ⟨?_, fun o ho => ?_⟩
    · show (obsV _ _).length ≤ _
      omega
    · have := obs_fit _ _ o ho
      show o.slots.length ≤ _
      omega
  · exact ⟨by simp, fun o ho => by cases ho⟩
theorem deL_len {l : List UInt8} (hl : l.length ≤ 100000) : (deL l).length ≤ 200000 := by
  unfold deL
  split
  · have h := ls_short (dc4 (l.take (l.length - 4)))
    have h4 : (dc4 (l.take (l.length - 4))).s.length ≤ 100000 := by
      refine Nat.le_trans (obs_len _ _) (Nat.le_trans (tkR_len _ 4) (Nat.le_trans (tkR_len _ 4) (Nat.le_trans (tkR_len _ 4) (Nat.le_trans (tkR_len _ 3) ?_))))
      show (l.take (l.length - 4)).length ≤ _
      rw [List.length_take]; omega
    show (lsV _).length ≤ _
    omega
  · simp
set_option maxHeartbeats 3000000 in
theorem tells8_any (h : Hp) (rs : List Int) (s : ByteArray) (A : Option Addr) (c : Nat) (R : Option Addr) (d : Nat) (w : World) (hs : ObsR w A h.objs) (fit : h.Fit) (hr : IntsR w R rs) (hl : rs.length ≤ 9223372036854775807) (hsl : s.size ≤ 9223372036854775807) :
    Calls Try.prog 9 #[.agg #[.slice A h.objs.length c, .int .i64 h.cap, .int .i64 h.last], .slice R rs.length d, .string s] w fun e w' => e = .returned (.bool true) ∧ Below w.heap.size w w' := by
  obtain ⟨l, rfl⟩ : ∃ l, s = str l := ⟨_, (str_list s).symm⟩
  have hsz := str_size l
  rw [hsz] at hsl
  have HB0 := hid (below_alloc w (.cells #[Value.slice A h.objs.length c, Value.int .i64 h.cap, Value.int .i64 h.last] 24))
  have X0 := hid (Lies.new w 24 #[Value.slice A h.objs.length c, Value.int .i64 h.cap, Value.int .i64 h.last])
  have O0 := hid (hs.below HB0.out)
  have R0 := hid (hr.below HB0.out)
  have HF := hid fit
  have hfl := fit.1
  clear hs fit hr
  go_enter Try.func9, Try.ntmps9
  go_wp2_with fail
  refine (small_ok h A c _ O0.out HF.out).mono ?_
  rintro e w1 ⟨sm, rfl, hb⟩
  have HB1 := hid (HB0.out.trans (hb.mono HB0.out.size))
  have X1 := hid (X0.out.later hb)
  have O1 := hid (O0.out.below hb)
  have R1 := hid (R0.out.below hb)
  clear hb
  have x0 := X1.out.cell 0
  have x1 := X1.out.cell 1
  have x2 := X1.out.cell 2
  simp only [List.getElem?_toArray, List.getElem?_cons_zero, List.getElem?_cons_succ] at x0 x1 x2
  cases sm
  · go_wp2_with fail
    refine (fixed8_any _).mono ?_
    rintro e w2 ⟨rfl, hb⟩
    have HB2 := hid (HB1.out.trans (hb.mono HB1.out.size))
    have X2 := hid (X1.out.later hb)
    have O2 := hid (O1.out.below hb)
    have R2 := hid (R1.out.below hb)
    clear x0 x1 x2
    clear hb
    have x0 := X2.out.cell 0
    have x1 := X2.out.cell 1
    have x2 := X2.out.cell 2
    simp only [List.getElem?_toArray, List.getElem?_cons_zero, List.getElem?_cons_succ] at x0 x1 x2
    go_wp2_with fail
    go_ret
    exact ⟨rfl, HB2.out⟩
  · by_cases q1 : 100 < rs.length
    · go_wp2_with fail
      refine (fixed8_any _).mono ?_
      rintro e w2 ⟨rfl, hb⟩
      have HB2 := hid (HB1.out.trans (hb.mono HB1.out.size))
      have X2 := hid (X1.out.later hb)
      have O2 := hid (O1.out.below hb)
      have R2 := hid (R1.out.below hb)
      clear x0 x1 x2
      clear hb
      have x0 := X2.out.cell 0
      have x1 := X2.out.cell 1
      have x2 := X2.out.cell 2
      simp only [List.getElem?_toArray, List.getElem?_cons_zero, List.getElem?_cons_succ] at x0 x1 x2
      go_wp2_with fail
      go_ret
      exact ⟨rfl, HB2.out⟩
    · by_cases q2 : (3000 : Int) < l.length
      · go_wp2_with fail
        refine (fixed8_any _).mono ?_
        rintro e w2 ⟨rfl, hb⟩
        have HB2 := hid (HB1.out.trans (hb.mono HB1.out.size))
        have X2 := hid (X1.out.later hb)
        have O2 := hid (O1.out.below hb)
        have R2 := hid (R1.out.below hb)
        clear x0 x1 x2
        clear hb
        have x0 := X2.out.cell 0
        have x1 := X2.out.cell 1
        have x2 := X2.out.cell 2
        simp only [List.getElem?_toArray, List.getElem?_cons_zero, List.getElem?_cons_succ] at x0 x1 x2
        go_wp2_with fail
        go_ret
        exact ⟨rfl, HB2.out⟩
      · have hl3 : l.length ≤ 3000 := by omega
        obtain ⟨k, hk⟩ : ∃ k, k = deH l := ⟨_, rfl⟩
        obtain ⟨L, hL⟩ : ∃ L, L = deL l := ⟨_, rfl⟩
        obtain ⟨en, hen⟩ : ∃ en, en = deE l := ⟨_, rfl⟩
        obtain ⟨E, hE⟩ : ∃ E, E = encE h rs := ⟨_, rfl⟩
        have KF : Hid k.Fit := by show k.Fit; rw [hk]; exact deH_fit (by omega)
        have hLl : L.length ≤ 200000 := by rw [hL]; exact deL_len (by omega)
        have HQk := hid hk
        have HQL := hid hL
        have HQen := hid hen
        have HQE := hid hE
        clear hk hL hen hE
        go_wp2_with fail
        refine (dec_any8 l (by omega) _).mono ?_
        rintro e w2 ⟨A2, c2, P2, d2, ls2, rfl, hls, ho, hi, hb⟩
        rw [← HQk.out, ← HQL.out, ← HQen.out]
        rw [← HQk.out] at hls
        rw [← HQL.out] at hi
        have HAL := hid (below_alloc w2 (.cells #[Value.slice A2 k.objs.length c2, Value.int .i64 k.cap, Value.int .i64 k.last] 24))
        have HB2 := hid ((HB1.out.trans (hb.mono HB1.out.size)).trans (HAL.out.mono (Nat.le_trans HB1.out.size hb.size)))
        have X2 := hid ((X1.out.later hb).later HAL.out)
        have O2 := hid ((O1.out.below hb).below HAL.out)
        have R2 := hid ((R1.out.below hb).below HAL.out)
        have G2 := hid (Lies.new w2 24 #[Value.slice A2 k.objs.length c2, Value.int .i64 k.cap, Value.int .i64 k.last])
        have OK2 := hid ((own_obs ho hls).below HAL.out)
        have LK2 := hid ((own_ints hi).below HAL.out)
        clear x0 x1 x2
        clear hb
        clear ho hi hls HAL
        have x0 := X2.out.cell 0
        have x1 := X2.out.cell 1
        have x2 := X2.out.cell 2
        have g0 := G2.out.cell 0
        have g1 := G2.out.cell 1
        have g2 := G2.out.cell 2
        simp only [List.getElem?_toArray, List.getElem?_cons_zero, List.getElem?_cons_succ] at x0 x1 x2 g0 g1 g2
        go_wp2_with fail
        refine (rdec_any8 l (by omega) _).mono ?_
        rintro e w3 ⟨A3, c3, P3, d3, ls3, rfl, hls, ho, hi, hb⟩
        rw [← HQk.out, ← HQL.out, ← HQen.out]
        rw [← HQk.out] at hls
        rw [← HQL.out] at hi
        have HAL := hid (below_alloc w3 (.cells #[Value.slice A3 k.objs.length c3, Value.int .i64 k.cap, Value.int .i64 k.last] 24))
        have HB3 := hid ((HB2.out.trans (hb.mono HB2.out.size)).trans (HAL.out.mono (Nat.le_trans HB2.out.size hb.size)))
        have X3 := hid ((X2.out.later hb).later HAL.out)
        have G3 := hid ((G2.out.later hb).later HAL.out)
        have O3 := hid ((O2.out.below hb).below HAL.out)
        have R3 := hid ((R2.out.below hb).below HAL.out)
        have OK3 := hid ((OK2.out.below hb).below HAL.out)
        have LK3 := hid ((LK2.out.below hb).below HAL.out)
        have H3 := hid (Lies.new w3 24 #[Value.slice A3 k.objs.length c3, Value.int .i64 k.cap, Value.int .i64 k.last])
        have OL3 := hid ((own_obs ho hls).below HAL.out)
        have LL3 := hid ((own_ints hi).below HAL.out)
        clear x0 x1 x2 g0 g1 g2
        clear hb
        clear ho hi hls HAL
        have x0 := X3.out.cell 0
        have x1 := X3.out.cell 1
        have x2 := X3.out.cell 2
        have g0 := G3.out.cell 0
        have g1 := G3.out.cell 1
        have g2 := G3.out.cell 2
        have u0 := H3.out.cell 0
        have u1 := H3.out.cell 1
        have u2 := H3.out.cell 2
        simp only [List.getElem?_toArray, List.getElem?_cons_zero, List.getElem?_cons_succ] at x0 x1 x2 g0 g1 g2 u0 u1 u2
        go_upto_region 5 with fail
        obtain ⟨W, hW⟩ : ∃ W, W = w3.alloc (.cells #[Value.slice A3 k.objs.length c3, Value.int .i64 k.cap, Value.int .i64 k.last] 24) := ⟨_, rfl⟩
        rw [← hW] at OK3 OL3 LK3 LL3 O3 R3 HB3 X3 G3 H3 x0 x1 x2 g0 g1 g2 u0 u1 u2 ⊢
        clear hW
        refine wp_region_held_drew (S := (fun w' => w'.cell? ⟨w.heap.size, 0, none⟩ = some (.slice A h.objs.length c) ∧ w'.cell? ⟨w.heap.size, 1, none⟩ = some (.int .i64 h.cap) ∧ w'.cell? ⟨w.heap.size, 2, none⟩ = some (.int .i64 h.last) ∧ w'.cell? ⟨w2.heap.size, 0, none⟩ = some (.slice A2 k.objs.length c2) ∧ w'.cell? ⟨w2.heap.size, 1, none⟩ = some (.int .i64 k.cap) ∧ w'.cell? ⟨w2.heap.size, 2, none⟩ = some (.int .i64 k.last) ∧ w'.cell? ⟨w3.heap.size, 0, none⟩ = some (.slice A3 k.objs.length c3) ∧ w'.cell? ⟨w3.heap.size, 1, none⟩ = some (.int .i64 k.cap) ∧ w'.cell? ⟨w3.heap.size, 2, none⟩ = some (.int .i64 k.last))) (by kernel_rfl) ?_ (fun hH0 => ?_)
        · exact ⟨x0, x1, x2, g0, g1, g2, u0, u1, u2⟩
        refine wpAnyH_ready (rs := [0]) (by kernel_rfl) (by simp) ?_
        refine AllReadyH.cons (i := 0) (o := { dst := some 39, op := Go.Op.call { callee := Go.Callee.value (Go.Operand.func 36), args := #[], argTypes := #[] }, type := 4, pos := "law.go:34", after := #[], guard := none }) rfl (fun K hK => ?_) AllReadyH.nil
        go_simp
        go_at_call 36
        refine (fixed8_any _).mono ?_
        rintro e v1 ⟨rfl, hb⟩
        have HV1 := hid (then_w (Below.refl W.heap.size W).drew hb)
        refine hK.out _ _ ?_ (fun hH1 => ?_)
        · exact ⟨cell_later hb hH0.1, cell_later hb hH0.2.1, cell_later hb hH0.2.2.1, cell_later hb hH0.2.2.2.1, cell_later hb hH0.2.2.2.2.1, cell_later hb hH0.2.2.2.2.2.1, cell_later hb hH0.2.2.2.2.2.2.1, cell_later hb hH0.2.2.2.2.2.2.2.1, cell_later hb hH0.2.2.2.2.2.2.2.2⟩
        clear hK K
        try simp only [Act.put, List.setIfInBounds_toArray, List.set_cons_zero, List.set_cons_succ]
        clear hb
        refine wpAnyH_take (i := 1) (oi := { dst := some 40, op := Go.Op.move (Go.Operand.tmp 39), type := 4, pos := "law.go:34", after := #[{ on := 0, ground := Go.Ground.data }, { on := 0, ground := Go.Ground.chain }], guard := none }) (v := ?vv1) rfl (by kernel_rfl) (by kernel_rfl) (by kernel_rfl) (fun _ _ _ h => h) (Or.inl ⟨by rfl, ?hy1⟩) (by assumption) ?rr1
        case hy1 => intro w hSw; (try dsimp only at hSw); go_simp; all_goals with_reducible rfl
        try simp only [Act.put, List.setIfInBounds_toArray, List.set_cons_zero, List.set_cons_succ]
        refine wpAnyH_take (i := 2) (oi := { dst := some 41, op := Go.Op.load 24 (Go.Operand.tmp 3), type := 24, pos := "law.go:34", after := #[{ on := 1, ground := Go.Ground.guard }], guard := some (1, true) }) (v := ?vv2) rfl (by kernel_rfl) (by kernel_rfl) (by kernel_rfl) (fun _ _ _ h => h) (Or.inl ⟨by rfl, ?hy2⟩) (by assumption) ?rr2
        case hy2 => intro w hSw; (try dsimp only at hSw); go_simp; all_goals with_reducible rfl
        try simp only [Act.put, List.setIfInBounds_toArray, List.set_cons_zero, List.set_cons_succ]
        refine wpAnyH_take (i := 3) (oi := { dst := some 42, op := Go.Op.move (Go.Operand.tmp 1), type := 44, pos := "law.go:34", after := #[{ on := 1, ground := Go.Ground.guard }], guard := some (1, true) }) (v := ?vv3) rfl (by kernel_rfl) (by kernel_rfl) (by kernel_rfl) (fun _ _ _ h => h) (Or.inl ⟨by rfl, ?hy3⟩) (by assumption) ?rr3
        case hy3 => intro w hSw; (try dsimp only at hSw); go_simp; all_goals with_reducible rfl
        try simp only [Act.put, List.setIfInBounds_toArray, List.set_cons_zero, List.set_cons_succ]
        refine wpAnyH_take (i := 5) (oi := { dst := some 44, op := Go.Op.load 24 (Go.Operand.tmp 3), type := 24, pos := "law.go:34", after := #[{ on := 1, ground := Go.Ground.guard }], guard := some (1, true) }) (v := ?vv4) rfl (by kernel_rfl) (by kernel_rfl) (by kernel_rfl) (fun _ _ _ h => h) (Or.inl ⟨by rfl, ?hy4⟩) (by assumption) ?rr4
        case hy4 => intro w hSw; (try dsimp only at hSw); go_simp; all_goals with_reducible rfl
        try simp only [Act.put, List.setIfInBounds_toArray, List.set_cons_zero, List.set_cons_succ]
        refine wpAnyH_take (i := 6) (oi := { dst := some 45, op := Go.Op.move (Go.Operand.tmp 1), type := 44, pos := "law.go:34", after := #[{ on := 1, ground := Go.Ground.guard }], guard := some (1, true) }) (v := ?vv5) rfl (by kernel_rfl) (by kernel_rfl) (by kernel_rfl) (fun _ _ _ h => h) (Or.inl ⟨by rfl, ?hy5⟩) (by assumption) ?rr5
        case hy5 => intro w hSw; (try dsimp only at hSw); go_simp; all_goals with_reducible rfl
        try simp only [Act.put, List.setIfInBounds_toArray, List.set_cons_zero, List.set_cons_succ]
        refine wpAnyH_ready (rs := [4]) (by kernel_rfl) (by simp) ?_
        refine AllReadyH.cons (i := 4) (o := { dst := some 43, op := Go.Op.call { callee := Go.Callee.value (Go.Operand.func 39), args := #[Go.Operand.tmp 41, Go.Operand.tmp 42], argTypes := #[24, 44] }, type := 9, pos := "law.go:34", after := #[{ on := 2, ground := Go.Ground.data }, { on := 3, ground := Go.Ground.data }, { on := 1, ground := Go.Ground.chain }, { on := 1, ground := Go.Ground.guard }], guard := some (1, true) }) rfl (fun K hK => ?_) AllReadyH.nil
        go_simp
        go_at_call 39
        refine (enc_any8 h rs A R c d _ (O3.out.below HV1.out) HF.out (R3.out.below HV1.out) hl).mono ?_
        rintro e v2 ⟨rfl, hb⟩
        rw [← HQE.out]
        have HV2 := hid (then_w HV1.out hb)
        refine hK.out _ _ ?_ (fun hH2 => ?_)
        · exact ⟨cell_later hb hH1.1, cell_later hb hH1.2.1, cell_later hb hH1.2.2.1, cell_later hb hH1.2.2.2.1, cell_later hb hH1.2.2.2.2.1, cell_later hb hH1.2.2.2.2.2.1, cell_later hb hH1.2.2.2.2.2.2.1, cell_later hb hH1.2.2.2.2.2.2.2.1, cell_later hb hH1.2.2.2.2.2.2.2.2⟩
        clear hK K
        try simp only [Act.put, List.setIfInBounds_toArray, List.set_cons_zero, List.set_cons_succ]
        clear hb
        refine wpAnyH_ready (rs := [7]) (by kernel_rfl) (by simp) ?_
        refine AllReadyH.cons (i := 7) (o := { dst := some 46, op := Go.Op.call { callee := Go.Callee.value (Go.Operand.func 40), args := #[Go.Operand.tmp 44, Go.Operand.tmp 45], argTypes := #[24, 44] }, type := 9, pos := "law.go:34", after := #[{ on := 5, ground := Go.Ground.data }, { on := 6, ground := Go.Ground.data }, { on := 4, ground := Go.Ground.chain }, { on := 1, ground := Go.Ground.guard }], guard := some (1, true) }) rfl (fun K hK => ?_) AllReadyH.nil
        go_simp
        go_at_call 40
        refine (renc_any8 h rs A R c d _ (O3.out.below HV2.out) HF.out (R3.out.below HV2.out) hl).mono ?_
        rintro e v3 ⟨rfl, hb⟩
        rw [← HQE.out]
        have HV3 := hid (then_w HV2.out hb)
        refine hK.out _ _ ?_ (fun hH3 => ?_)
        · exact ⟨cell_later hb hH2.1, cell_later hb hH2.2.1, cell_later hb hH2.2.2.1, cell_later hb hH2.2.2.2.1, cell_later hb hH2.2.2.2.2.1, cell_later hb hH2.2.2.2.2.2.1, cell_later hb hH2.2.2.2.2.2.2.1, cell_later hb hH2.2.2.2.2.2.2.2.1, cell_later hb hH2.2.2.2.2.2.2.2.2⟩
        clear hK K
        try simp only [Act.put, List.setIfInBounds_toArray, List.set_cons_zero, List.set_cons_succ]
        clear hb
        refine wpAnyH_take (i := 8) (oi := { dst := some 47, op := Go.Op.binOp Go.BinOp.eql 9 (Go.Operand.tmp 43) (Go.Operand.tmp 46) 9, type := 4, pos := "law.go:34", after := #[{ on := 4, ground := Go.Ground.data }, { on := 7, ground := Go.Ground.data }, { on := 1, ground := Go.Ground.guard }], guard := some (1, true) }) (v := ?vv6) rfl (by kernel_rfl) (by kernel_rfl) (by kernel_rfl) (fun _ _ _ h => h) (Or.inl ⟨by rfl, ?hy6⟩) (by assumption) ?rr6
        case hy6 => intro w hSw; (try dsimp only at hSw); go_simp; all_goals with_reducible rfl
        try simp only [Act.put, List.setIfInBounds_toArray, List.set_cons_zero, List.set_cons_succ]
        refine wpAnyH_take (i := 9) (oi := { dst := some 48, op := Go.Op.pick (Go.Operand.tmp 40) (Go.Operand.tmp 47) (Go.Operand.const (Go.Value.bool false)), type := 4, pos := "law.go:34", after := #[{ on := 1, ground := Go.Ground.data }, { on := 8, ground := Go.Ground.data }], guard := none }) (v := ?vv7) rfl (by kernel_rfl) (by kernel_rfl) (by kernel_rfl) (fun _ _ _ h => h) (Or.inl ⟨by rfl, ?hy7⟩) (by assumption) ?rr7
        case hy7 => intro w hSw; (try dsimp only at hSw); go_simp; all_goals with_reducible rfl
        try simp only [Act.put, List.setIfInBounds_toArray, List.set_cons_zero, List.set_cons_succ]
        refine wpAnyH_take (i := 10) (oi := { dst := some 49, op := Go.Op.move (Go.Operand.tmp 48), type := 4, pos := "law.go:34", after := #[{ on := 9, ground := Go.Ground.data }, { on := 7, ground := Go.Ground.chain }], guard := none }) (v := ?vv8) rfl (by kernel_rfl) (by kernel_rfl) (by kernel_rfl) (fun _ _ _ h => h) (Or.inl ⟨by rfl, ?hy8⟩) (by assumption) ?rr8
        case hy8 => intro w hSw; (try dsimp only at hSw); go_simp; all_goals with_reducible rfl
        try simp only [Act.put, List.setIfInBounds_toArray, List.set_cons_zero, List.set_cons_succ]
        refine wpAnyH_take (i := 11) (oi := { dst := some 50, op := Go.Op.load 24 (Go.Operand.tmp 7), type := 24, pos := "law.go:34", after := #[{ on := 10, ground := Go.Ground.guard }], guard := some (10, true) }) (v := ?vv9) rfl (by kernel_rfl) (by kernel_rfl) (by kernel_rfl) (fun _ _ _ h => h) (Or.inl ⟨by rfl, ?hy9⟩) (by assumption) ?rr9
        case hy9 => intro w hSw; (try dsimp only at hSw); go_simp; all_goals with_reducible rfl
        try simp only [Act.put, List.setIfInBounds_toArray, List.set_cons_zero, List.set_cons_succ]
        refine wpAnyH_take (i := 12) (oi := { dst := some 51, op := Go.Op.load 24 (Go.Operand.tmp 10), type := 24, pos := "law.go:34", after := #[{ on := 10, ground := Go.Ground.guard }], guard := some (10, true) }) (v := ?vv10) rfl (by kernel_rfl) (by kernel_rfl) (by kernel_rfl) (fun _ _ _ h => h) (Or.inl ⟨by rfl, ?hy10⟩) (by assumption) ?rr10
        case hy10 => intro w hSw; (try dsimp only at hSw); go_simp; all_goals with_reducible rfl
        try simp only [Act.put, List.setIfInBounds_toArray, List.set_cons_zero, List.set_cons_succ]
        refine wpAnyH_ready (rs := [13]) (by kernel_rfl) (by simp) ?_
        refine AllReadyH.cons (i := 13) (o := { dst := some 52, op := Go.Op.call { callee := Go.Callee.value (Go.Operand.func 28), args := #[Go.Operand.tmp 50, Go.Operand.tmp 51], argTypes := #[24, 24] }, type := 4, pos := "law.go:34", after := #[{ on := 11, ground := Go.Ground.data }, { on := 12, ground := Go.Ground.data }, { on := 10, ground := Go.Ground.chain }, { on := 10, ground := Go.Ground.guard }], guard := some (10, true) }) rfl (fun K hK => ?_) AllReadyH.nil
        go_simp
        go_at_call 28
        refine (same_any k A2 A3 c2 c3 _ (OK3.out.below HV3.out) (OL3.out.below HV3.out) KF.out).mono ?_
        rintro e v4 ⟨rfl, hb⟩
        have HV4 := hid (then_w HV3.out hb)
        refine hK.out _ _ ?_ (fun hH4 => ?_)
        · exact ⟨cell_later hb hH3.1, cell_later hb hH3.2.1, cell_later hb hH3.2.2.1, cell_later hb hH3.2.2.2.1, cell_later hb hH3.2.2.2.2.1, cell_later hb hH3.2.2.2.2.2.1, cell_later hb hH3.2.2.2.2.2.2.1, cell_later hb hH3.2.2.2.2.2.2.2.1, cell_later hb hH3.2.2.2.2.2.2.2.2⟩
        clear hK K
        try simp only [Act.put, List.setIfInBounds_toArray, List.set_cons_zero, List.set_cons_succ]
        clear hb
        refine wpAnyH_take (i := 14) (oi := { dst := some 53, op := Go.Op.pick (Go.Operand.tmp 49) (Go.Operand.tmp 52) (Go.Operand.const (Go.Value.bool false)), type := 4, pos := "law.go:34", after := #[{ on := 10, ground := Go.Ground.data }, { on := 13, ground := Go.Ground.data }], guard := none }) (v := ?vv11) rfl (by kernel_rfl) (by kernel_rfl) (by kernel_rfl) (fun _ _ _ h => h) (Or.inl ⟨by rfl, ?hy11⟩) (by assumption) ?rr11
        case hy11 => intro w hSw; (try dsimp only at hSw); go_simp; all_goals with_reducible rfl
        try simp only [Act.put, List.setIfInBounds_toArray, List.set_cons_zero, List.set_cons_succ]
        refine wpAnyH_take (i := 15) (oi := { dst := some 54, op := Go.Op.move (Go.Operand.tmp 53), type := 4, pos := "law.go:34", after := #[{ on := 14, ground := Go.Ground.data }, { on := 13, ground := Go.Ground.chain }], guard := none }) (v := ?vv12) rfl (by kernel_rfl) (by kernel_rfl) (by kernel_rfl) (fun _ _ _ h => h) (Or.inl ⟨by rfl, ?hy12⟩) (by assumption) ?rr12
        case hy12 => intro w hSw; (try dsimp only at hSw); go_simp; all_goals with_reducible rfl
        try simp only [Act.put, List.setIfInBounds_toArray, List.set_cons_zero, List.set_cons_succ]
        refine wpAnyH_take (i := 16) (oi := { dst := some 55, op := Go.Op.move (Go.Operand.tmp 8), type := 44, pos := "law.go:34", after := #[{ on := 15, ground := Go.Ground.guard }], guard := some (15, true) }) (v := ?vv13) rfl (by kernel_rfl) (by kernel_rfl) (by kernel_rfl) (fun _ _ _ h => h) (Or.inl ⟨by rfl, ?hy13⟩) (by assumption) ?rr13
        case hy13 => intro w hSw; (try dsimp only at hSw); go_simp; all_goals with_reducible rfl
        try simp only [Act.put, List.setIfInBounds_toArray, List.set_cons_zero, List.set_cons_succ]
        refine wpAnyH_take (i := 17) (oi := { dst := some 56, op := Go.Op.move (Go.Operand.tmp 11), type := 44, pos := "law.go:34", after := #[{ on := 15, ground := Go.Ground.guard }], guard := some (15, true) }) (v := ?vv14) rfl (by kernel_rfl) (by kernel_rfl) (by kernel_rfl) (fun _ _ _ h => h) (Or.inl ⟨by rfl, ?hy14⟩) (by assumption) ?rr14
        case hy14 => intro w hSw; (try dsimp only at hSw); go_simp; all_goals with_reducible rfl
        try simp only [Act.put, List.setIfInBounds_toArray, List.set_cons_zero, List.set_cons_succ]
        refine wpAnyH_ready (rs := [18]) (by kernel_rfl) (by simp) ?_
        refine AllReadyH.cons (i := 18) (o := { dst := some 57, op := Go.Op.call { callee := Go.Callee.value (Go.Operand.func 41), args := #[Go.Operand.tmp 55, Go.Operand.tmp 56], argTypes := #[44, 44] }, type := 4, pos := "law.go:34", after := #[{ on := 16, ground := Go.Ground.data }, { on := 17, ground := Go.Ground.data }, { on := 15, ground := Go.Ground.chain }, { on := 15, ground := Go.Ground.guard }], guard := some (15, true) }) rfl (fun K hK => ?_) AllReadyH.nil
        go_simp
        go_at_call 41
        refine (rints_any L L P2 P3 d2 d3 _ (LK3.out.below HV4.out) (LL3.out.below HV4.out) (by omega)).mono ?_
        rintro e v5 ⟨rfl, hb⟩
        rw [decide_eq_true rfl]
        have HV5 := hid (then_w HV4.out hb)
        refine hK.out _ _ ?_ (fun hH5 => ?_)
        · exact ⟨cell_later hb hH4.1, cell_later hb hH4.2.1, cell_later hb hH4.2.2.1, cell_later hb hH4.2.2.2.1, cell_later hb hH4.2.2.2.2.1, cell_later hb hH4.2.2.2.2.2.1, cell_later hb hH4.2.2.2.2.2.2.1, cell_later hb hH4.2.2.2.2.2.2.2.1, cell_later hb hH4.2.2.2.2.2.2.2.2⟩
        clear hK K
        try simp only [Act.put, List.setIfInBounds_toArray, List.set_cons_zero, List.set_cons_succ]
        clear hb
        refine wpAnyH_take (i := 19) (oi := { dst := some 58, op := Go.Op.pick (Go.Operand.tmp 54) (Go.Operand.tmp 57) (Go.Operand.const (Go.Value.bool false)), type := 4, pos := "law.go:34", after := #[{ on := 15, ground := Go.Ground.data }, { on := 18, ground := Go.Ground.data }], guard := none }) (v := ?vv15) rfl (by kernel_rfl) (by kernel_rfl) (by kernel_rfl) (fun _ _ _ h => h) (Or.inl ⟨by rfl, ?hy15⟩) (by assumption) ?rr15
        case hy15 => intro w hSw; (try dsimp only at hSw); go_simp; all_goals with_reducible rfl
        try simp only [Act.put, List.setIfInBounds_toArray, List.set_cons_zero, List.set_cons_succ]
        refine wpAnyH_take (i := 20) (oi := { dst := some 59, op := Go.Op.move (Go.Operand.tmp 58), type := 4, pos := "law.go:34", after := #[{ on := 19, ground := Go.Ground.data }, { on := 18, ground := Go.Ground.chain }], guard := none }) (v := ?vv16) rfl (by kernel_rfl) (by kernel_rfl) (by kernel_rfl) (fun _ _ _ h => h) (Or.inl ⟨by rfl, ?hy16⟩) (by assumption) ?rr16
        case hy16 => intro w hSw; (try dsimp only at hSw); go_simp; all_goals with_reducible rfl
        try simp only [Act.put, List.setIfInBounds_toArray, List.set_cons_zero, List.set_cons_succ]
        refine wpAnyH_take (i := 21) (oi := { dst := some 60, op := Go.Op.move (Go.Operand.tmp 9), type := 29, pos := "law.go:34", after := #[{ on := 20, ground := Go.Ground.guard }], guard := some (20, true) }) (v := ?vv17) rfl (by kernel_rfl) (by kernel_rfl) (by kernel_rfl) (fun _ _ _ h => h) (Or.inl ⟨by rfl, ?hy17⟩) (by assumption) ?rr17
        case hy17 => intro w hSw; (try dsimp only at hSw); go_simp; all_goals with_reducible rfl
        try simp only [Act.put, List.setIfInBounds_toArray, List.set_cons_zero, List.set_cons_succ]
        refine wpAnyH_take (i := 22) (oi := { dst := some 61, op := Go.Op.move (Go.Operand.tmp 12), type := 29, pos := "law.go:34", after := #[{ on := 20, ground := Go.Ground.guard }], guard := some (20, true) }) (v := ?vv18) rfl (by kernel_rfl) (by kernel_rfl) (by kernel_rfl) (fun _ _ _ h => h) (Or.inl ⟨by rfl, ?hy18⟩) (by assumption) ?rr18
        case hy18 => intro w hSw; (try dsimp only at hSw); go_simp; all_goals with_reducible rfl
        try simp only [Act.put, List.setIfInBounds_toArray, List.set_cons_zero, List.set_cons_succ]
        refine wpAnyH_take (i := 23) (oi := { dst := some 62, op := Go.Op.binOp Go.BinOp.eql 29 (Go.Operand.tmp 60) (Go.Operand.tmp 61) 29, type := 4, pos := "law.go:34", after := #[{ on := 21, ground := Go.Ground.data }, { on := 22, ground := Go.Ground.data }, { on := 20, ground := Go.Ground.guard }], guard := some (20, true) }) (v := ?vv19) rfl (by kernel_rfl) (by kernel_rfl) (by kernel_rfl) (fun _ _ _ h => h) (Or.inl ⟨by rfl, ?hy19⟩) (by assumption) ?rr19
        case hy19 => intro w hSw; (try dsimp only at hSw); go_simp; all_goals with_reducible rfl
        try simp only [Act.put, List.setIfInBounds_toArray, List.set_cons_zero, List.set_cons_succ]
        refine wpAnyH_take (i := 24) (oi := { dst := some 63, op := Go.Op.pick (Go.Operand.tmp 59) (Go.Operand.tmp 62) (Go.Operand.const (Go.Value.bool false)), type := 4, pos := "law.go:34", after := #[{ on := 20, ground := Go.Ground.data }, { on := 23, ground := Go.Ground.data }], guard := none }) (v := ?vv20) rfl (by kernel_rfl) (by kernel_rfl) (by kernel_rfl) (fun _ _ _ h => h) (Or.inl ⟨by rfl, ?hy20⟩) (by assumption) ?rr20
        case hy20 => intro w hSw; (try dsimp only at hSw); go_simp; all_goals with_reducible rfl
        try simp only [Act.put, List.setIfInBounds_toArray, List.set_cons_zero, List.set_cons_succ]
        refine wpAnyH_take (i := 25) (oi := { dst := some 6, op := Go.Op.assign (Go.Operand.tmp 63), type := 4, pos := "law.go:34", after := #[{ on := 24, ground := Go.Ground.data }, { on := 20, ground := Go.Ground.chain }, { on := 0, ground := Go.Ground.phase }, { on := 1, ground := Go.Ground.phase }, { on := 2, ground := Go.Ground.phase }, { on := 3, ground := Go.Ground.phase }, { on := 4, ground := Go.Ground.phase }, { on := 5, ground := Go.Ground.phase }, { on := 6, ground := Go.Ground.phase }, { on := 7, ground := Go.Ground.phase }, { on := 8, ground := Go.Ground.phase }, { on := 9, ground := Go.Ground.phase }, { on := 10, ground := Go.Ground.phase }, { on := 11, ground := Go.Ground.phase }, { on := 12, ground := Go.Ground.phase }, { on := 13, ground := Go.Ground.phase }, { on := 14, ground := Go.Ground.phase }, { on := 15, ground := Go.Ground.phase }, { on := 16, ground := Go.Ground.phase }, { on := 17, ground := Go.Ground.phase }, { on := 18, ground := Go.Ground.phase }, { on := 19, ground := Go.Ground.phase }, { on := 20, ground := Go.Ground.phase }, { on := 21, ground := Go.Ground.phase }, { on := 22, ground := Go.Ground.phase }, { on := 23, ground := Go.Ground.phase }, { on := 24, ground := Go.Ground.phase }], guard := none }) (v := ?vv21) rfl (by kernel_rfl) (by kernel_rfl) (by kernel_rfl) (fun _ _ _ h => h) (Or.inl ⟨by rfl, ?hy21⟩) (by assumption) ?rr21
        case hy21 => intro w hSw; (try dsimp only at hSw); go_simp; all_goals with_reducible rfl
        try simp only [Act.put, List.setIfInBounds_toArray, List.set_cons_zero, List.set_cons_succ]
        refine wpAnyH_done (by kernel_rfl) ?_ _
        go_wp2_with fail
        go_ret
        exact ⟨by simp, HB3.out.trans (HV5.out.mono HB3.out.size)⟩
end Go.Proofs.Ythggafdfglojaaa
