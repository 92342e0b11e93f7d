/- canon.Of walked. -/
import Derived.Test.YtnilempeldlieaaGreatM11
import Derived.Test.YtnilempeldlieaaGreatWNW
namespace Go.Proofs.YtnilempeldlieaaGreat
open Go.RowKit
set_option maxRecDepth 100000
theorem NumS.start (u : World) : NumS ((u.alloc (.map #[] 0)).alloc (.cells #[.map (some u.heap.size), .slice none 0 0] 113)) (u.heap.size + 1) u.heap.size none 0 [] := by
  refine ⟨?_, ⟨.map [], (World.ownsMap_made u _ _ _).alloc _, mapIs_nil⟩, World.ownsRow_nil _ _ _ _⟩
  have := Lies.new (u.alloc (.map #[] 0)) 113 #[.map (some u.heap.size), .slice none 0 0]
  simpa using this
set_option maxHeartbeats 1500000 in
theorem of_own (h : Hp) (rs : List Int) (A R : Option Addr) (c d : Nat) (w : World) (hs : ObsR w A h.objs) (fit : h.Fit) (hr : IntsR w R rs) (hl : rs.length ≤ 100000) :
    Calls Tryz.prog 64 #[.agg #[.slice A h.objs.length c, .int .i64 h.cap, .int .i64 h.last], .slice R rs.length d] w (HeapIntsOwn w (cnH h rs) (cnL h rs) (liE h rs)) := by
  have hmm := @run_makeMap Tryz.prog
  have HB0 := hid (below_alloc2 w (.cells #[Value.slice A h.objs.length c, Value.int .i64 h.cap, Value.int .i64 h.last] 24) (.cells #[.slice none 0 0, .int .i64 0, .int .i64 0] 24))
  have X0 := hid ((Lies.new w 24 #[Value.slice A h.objs.length c, Value.int .i64 h.cap, Value.int .i64 h.last]).alloc (.cells #[.slice none 0 0, .int .i64 0, .int .i64 0] 24))
  have K0 : Hid (Lies ((w.alloc (.cells #[Value.slice A h.objs.length c, Value.int .i64 h.cap, Value.int .i64 h.last] 24)).alloc (.cells #[.slice none 0 0, .int .i64 0, .int .i64 0] 24)) (w.heap.size + 1) 24 #[.slice none 0 0, .int .i64 0, .int .i64 0]) := by
    have := Lies.new (w.alloc (.cells #[Value.slice A h.objs.length c, Value.int .i64 h.cap, Value.int .i64 h.last] 24)) 24 #[.slice none 0 0, .int .i64 0, .int .i64 0]
    simpa [Hid] using this
  have HS := hid hs
  have HF := hid fit
  have HR := hid hr
  clear hs fit hr
  by_cases he : liE h rs = 0
  · have HM := hid (li_ok he).1
    have HV := hid (li_ok he).2.1
    have hle := may_len (li_ok he).1
    have HE := hid he
    rw [he]
    go_enter Tryz.func64, Tryz.ntmps64
    go_wp2_with fail
    refine (fault_any h rs A R c d _ (HS.out.below HB0.out) HF.out (HR.out.below HB0.out) (by omega)).mono ?_
    rintro e w1 ⟨rfl, hb1⟩
    rw [he]
    have HB1 := hid (HB0.out.trans (hb1.mono HB0.out.size))
    have X1 := hid (X0.out.later hb1)
    have K1 := hid (K0.out.later hb1)
    clear hb1 he
    have hw01 : w.heap.size + 1 < w1.heap.size := K1.out.lt
    have NS := hid (NumS.start w1)
    have HAL0 := hid (below_alloc2 w1 (.map #[] 0) (.cells #[.map (some w1.heap.size), .slice none 0 0] 113))
    have HBW := hid (HB1.out.trans (HAL0.out.mono HB1.out.size))
    go_wp2_with fail
    refine (values6_any h [] rs (w1.heap.size + 1) w1.heap.size none R 0 d w _ NS.out HBW.out HR.out (by omega) (by omega) (fun a ha => by cases ha) HV.out hle ⟨List.nodup_nil, fun i hi => by simp at hi⟩ hl).mono ?_
    rintro e w2 ⟨A2, c2, S2, d2, rfl, hs2, ht2, hown2, hoff2⟩
    rw [cnL_eq HE.out] at hown2 ⊢
    obtain ⟨L, hL⟩ : ∃ L, L = cnL h rs := ⟨_, rfl⟩
    rw [← hL] at hown2 ⊢
    have X2 := hid (ht2.lies (X1.out.later HAL0.out) (by omega) (by omega) (fun a ha => by cases ha))
    have K2 := hid (ht2.lies (K1.out.later HAL0.out) (by omega) (by omega) (fun a ha => by cases ha))
    have HA2 : Hid (∀ a, A2 = some a → w.heap.size + 1 < a.block) := fun a ha => by
      rcases ht2.new a ha with ⟨b, hb, -⟩ | e
      · cases hb
      · have := HAL0.out.size; omega
    have HB2 := hid (HBW.out.trans (ht2.below (b := w.heap.size) HBW.out.size (by omega) (by omega) (fun a ha => by cases ha)))
    have hz12 : w1.heap.size + 1 < w2.heap.size := by have := hs2.box.lt; omega
    have HS2 := hid hs2
    have HO2 := hid (own_lower (base' := w1.heap.size) hown2 (Nat.le_trans (by simp) HAL0.out.size))
    have HF2 := hid hoff2
    have HLL := hid hL
    clear hs2 ht2 hown2 hoff2 hL NS HAL0 HBW X1 X0 K1 K0 HB0 HB1
    have x1 := X2.out.cell 1
    have x2 := X2.out.cell 2
    simp only [List.getElem?_toArray, List.getElem?_cons_zero, List.getElem?_cons_succ] at x1 x2
    go_wp2_with fail
    obtain ⟨W1, hW1⟩ : ∃ W1, W1 = w2.alloc (.cells #[.slice none 0 0, .int .i64 h.cap, .int .i64 h.last] 24) := ⟨_, rfl⟩
    have hG1 : Lies W1 w2.heap.size 24 #[.slice none 0 0, .int .i64 h.cap, .int .i64 h.last] := by rw [hW1]; exact Lies.new _ _ _
    have hb1 : Below w2.heap.size w2 W1 := by rw [hW1]; exact below_alloc _ _
    rw [← hW1]
    have HC1 : Hid (CanW w2 W1 (w1.heap.size + 1) w1.heap.size A2 h.cap h.last (meets h [] rs) A2 c2 none 0 []) := ⟨HS2.out.later hb1, .of_below hb1 _ _ _, OwnH.nil _ _, fun l hl => by simp at hl, hG1, by omega, by omega⟩
    clear hW1 hG1 hb1 x1 x2
    go_loopw [11] (fun i wr => ∃ (k : Nat) (M : List Nat) (A5 A6 : Option Addr) (c5 c6 : Nat) (ls : List LO), k ≤ M.length ∧ i = .int .i64 k ∧ CanW w2 wr (w1.heap.size + 1) w1.heap.size A2 h.cap h.last M A6 c6 A5 c5 ls ∧ ls.map (·.o) = cnK h M k ∧ Goes6 h rs M k ∧ Done h M k) (fun i _ => h.objs.length - (intOf i).toNat)
    case atStart => exact ⟨0, meets h [] rs, none, A2, 0, c2, [], Nat.zero_le _, rfl, HC1.out, rfl, Goes6.start h rs, fun j i o hj => absurd hj (Nat.not_lt_zero _)⟩
    case round =>
      clear HC1
      obtain ⟨k, M, A5, A6, c5, c6, ls, hk, rfl, hcw, hls, hgo, hdn⟩ := hrel
      rename World => wo
      have HCW := hid hcw
      have HLS := hid hls
      have HGO := hid hgo
      have HDN := hid hdn
      have hMl := hgo.met.len
      have hll : ls.length ≤ k := by
        have := congrArg List.length hls
        rw [List.length_map, cnK_len hk] at this
        omega
      have HA6 : Hid (∀ a, A6 = some a → w.heap.size + 1 < a.block) := fun a ha => by
        rcases hcw.turns.new a ha with ⟨b, hb, e⟩ | e
        · have := HA2.out b hb; omega
        · omega
      have HBO := hid (hcw.turns.below (b := w.heap.size + 2) (by omega) (by omega) (by omega) (fun a ha => by have := HA2.out a ha; omega))
      have XO := hid (X2.out.below HBO.out (by omega))
      have n1 := hcw.num.box.cell 1
      simp only [List.getElem?_toArray, List.getElem?_cons_zero, List.getElem?_cons_succ] at n1
      clear hcw hls hgo hdn
      by_cases hlt : k < M.length
      · have hio := own_ints (xs := iL M) (c := c6) (by rw [cast_len]; exact HCW.out.num.row)
        obtain ⟨bt, ot, rfl, hbt, hct⟩ := hio (by rw [cast_len]; omega)
        have tc := hct k (M[k] : Int) (by unfold iL; rw [List.getElem?_map, List.getElem?_eq_getElem hlt]; rfl)
        have hqm := HGO.out.met.lt (List.getElem_mem hlt)
        obtain ⟨b, off, rfl, hb, hc⟩ := HS.out (by omega)
        have hoi := List.getElem?_eq_getElem hqm
        obtain ⟨S, ds, hob, hin, -, -⟩ := hc _ _ hoi
        have hok := may_all HM.out _ (List.getElem_mem hqm)
        obtain ⟨o, ho⟩ : ∃ o, o = h.objs[M[k]] := ⟨_, rfl⟩
        rw [← ho] at hob hin hok hoi
        have hol := (kind_len (ob_kind hok)).1
        have hvs : ∀ v ∈ o.cls :: o.slots, hasB h.objs.length v = true := fun v hv => by
          obtain ⟨o1, o2⟩ := ob_vals hok
          rcases List.mem_cons.1 hv with g | g
          · rw [g]; exact ref_has o1
          · exact o2 v g
        have HVS := hid hvs
        have HGS := hid (HGO.out.step hlt)
        have HDS := hid (HDN.out.more hlt hoi)
        have HKS := hid (cnK_step HDN.out hlt (fun i hi => HGO.out.met.lt hi) hoi)
        have hed := edges_at hoi
        rw [hed] at HGS
        obtain ⟨q, hq⟩ : ∃ q, q = M[k] := ⟨_, rfl⟩
        rw [← hq] at tc hob hqm hed
        have HBX := hid (HB2.out.trans (HBO.out.mono (by omega)))
        obtain ⟨y0, y1, y2, y3, y4, y5⟩ := hob.below hb HBX.out
        have HIN := hid hin
        have HKQ := hid hed
        have xo := XO.out.cell 0
        simp only [List.getElem?_toArray, List.getElem?_cons_zero] at xo
        have g0 := HCW.out.box.cell 0
        simp only [List.getElem?_toArray, List.getElem?_cons_zero] at g0
        have nd : wo.drew.cell? ⟨w1.heap.size + 1, 1, none⟩ = some (.slice (some ⟨bt, ot, none⟩) M.length c6) := n1
        have td : wo.drew.cell? ⟨bt, ot + k, none⟩ = some (.int .i64 q) := tc
        have gd : wo.drew.cell? ⟨w2.heap.size, 0, none⟩ = some (.slice A5 ls.length c5) := g0
        have HOK := hid HGO.out.met.okay
        clear hc hct hob hin hok ho hq hoi hvs hio hed tc g0
        go_wp2_with fail
        refine wp_region_held_drew (S := (fun w' => w'.cell? ⟨b, off + q * 6, none⟩ = some (.int .i64 o.cls) ∧ w'.cell? ⟨b, off + q * 6 + 1, none⟩ = some (.int .i64 o.kind) ∧ w'.cell? ⟨b, off + q * 6 + 2, none⟩ = some (.slice S o.slots.length ds) ∧ w'.cell? ⟨b, off + q * 6 + 3, none⟩ = some (.string o.text) ∧ w'.cell? ⟨b, off + q * 6 + 4, none⟩ = some (.int .i64 o.bits) ∧ w'.cell? ⟨b, off + q * 6 + 5, none⟩ = some (.int .i64 o.hash) ∧ w'.cell? ⟨w.heap.size, 0, none⟩ = some (.slice (some ⟨b, off, none⟩) h.objs.length c))) (by kernel_rfl) ?_ (fun hH0 => ?_)
        · exact ⟨y0, y1, y2, y3, y4, y5, xo⟩
        refine wpAnyH_take (i := 0) (oi := { dst := some 35, op := Go.Op.fieldAddr 24 (Go.Operand.tmp 10) 0, type := 0, pos := "canon.go:21", after := #[], guard := none }) (v := ?vv1) rfl (by kernel_rfl) (by kernel_rfl) (by kernel_rfl) (fun _ _ _ h => h) (Or.inl ⟨by rfl, ?hy1⟩) (by assumption) ?rr1
        case hy1 => intro w hSw; (try dsimp only at hSw); go_simp; all_goals with_reducible rfl
        try simp only [Act.put, List.setIfInBounds_toArray, List.set_cons_zero, List.set_cons_succ]
        refine wpAnyH_take (i := 2) (oi := { dst := some 37, op := Go.Op.fieldAddr 24 (Go.Operand.tmp 2) 0, type := 0, pos := "canon.go:21", after := #[], guard := none }) (v := ?vv2) rfl (by kernel_rfl) (by kernel_rfl) (by kernel_rfl) (fun _ _ _ h => h) (Or.inl ⟨by rfl, ?hy2⟩) (by assumption) ?rr2
        case hy2 => intro w hSw; (try dsimp only at hSw); go_simp; all_goals with_reducible rfl
        try simp only [Act.put, List.setIfInBounds_toArray, List.set_cons_zero, List.set_cons_succ]
        refine wpAnyH_take (i := 3) (oi := { dst := some 38, op := Go.Op.load 22 (Go.Operand.tmp 37), type := 22, pos := "canon.go:21", after := #[{ on := 2, ground := Go.Ground.data }], guard := none }) (v := ?vv3) rfl (by kernel_rfl) (by kernel_rfl) (by kernel_rfl) (fun _ _ _ h => h) (Or.inl ⟨by rfl, ?hy3⟩) (by assumption) ?rr3
        case hy3 => intro w hSw; (try dsimp only at hSw); go_simp; all_goals with_reducible rfl
        try simp only [Act.put, List.setIfInBounds_toArray, List.set_cons_zero, List.set_cons_succ]
        refine wpAnyH_take (i := 4) (oi := { dst := some 39, op := Go.Op.fieldAddr 113 (Go.Operand.tmp 8) 1, type := 0, pos := "canon.go:21", after := #[], guard := none }) (v := ?vv4) rfl (by kernel_rfl) (by kernel_rfl) (by kernel_rfl) (fun _ _ _ h => h) (Or.inl ⟨by rfl, ?hy4⟩) (by assumption) ?rr4
        case hy4 => intro w hSw; (try dsimp only at hSw); go_simp; all_goals with_reducible rfl
        try simp only [Act.put, List.setIfInBounds_toArray, List.set_cons_zero, List.set_cons_succ]
        refine wpAnyH_take (i := 6) (oi := { dst := some 41, op := Go.Op.move (Go.Operand.tmp 11), type := 3, pos := "canon.go:21", after := #[], guard := none }) (v := ?vv5) rfl (by kernel_rfl) (by kernel_rfl) (by kernel_rfl) (fun _ _ _ h => h) (Or.inl ⟨by rfl, ?hy5⟩) (by assumption) ?rr5
        case hy5 => intro w hSw; (try dsimp only at hSw); go_simp; all_goals with_reducible rfl
        try simp only [Act.put, List.setIfInBounds_toArray, List.set_cons_zero, List.set_cons_succ]
        refine wpAnyH_ready (rs := [1, 5]) (by kernel_rfl) (by simp) ?_
        refine AllReadyH.cons (i := 1) (o := { dst := some 36, op := Go.Op.load 22 (Go.Operand.tmp 35), type := 22, pos := "canon.go:21", after := #[{ on := 0, ground := Go.Ground.data }], guard := none }) rfl (fun K hK => ?_) (AllReadyH.cons (i := 5) (o := { dst := some 40, op := Go.Op.load 34 (Go.Operand.tmp 39), type := 34, pos := "canon.go:21", after := #[{ on := 4, ground := Go.Ground.data }], guard := none }) rfl (fun K hK => ?_) AllReadyH.nil)
        · go_simp
          refine hK.out _ _ ?_ (fun hH1 => ?_)
          · exact hH0
          clear hK K
          try simp only [Act.put, List.setIfInBounds_toArray, List.set_cons_zero, List.set_cons_succ]
          refine wpAnyH_ready (rs := [5]) (by kernel_rfl) (by simp) ?_
          refine AllReadyH.cons (i := 5) (o := { dst := some 40, op := Go.Op.load 34 (Go.Operand.tmp 39), type := 34, pos := "canon.go:21", after := #[{ on := 4, ground := Go.Ground.data }], guard := none }) rfl (fun K hK => ?_) AllReadyH.nil
          go_simp
          refine hK.out _ _ ?_ (fun hH2 => ?_)
          · exact hH1
          clear hK K
          try simp only [Act.put, List.setIfInBounds_toArray, List.set_cons_zero, List.set_cons_succ]
          refine wpAnyH_take (i := 7) (oi := { dst := some 42, op := Go.Op.indexAddr 34 (Go.Operand.tmp 40) (Go.Operand.tmp 41), type := 0, pos := "canon.go:21", after := #[{ on := 5, ground := Go.Ground.data }, { on := 6, ground := Go.Ground.data }], guard := none }) (v := ?vv6) rfl (by kernel_rfl) (by kernel_rfl) (by kernel_rfl) (fun _ _ _ h => h) (Or.inl ⟨by rfl, ?hy6⟩) (by assumption) ?rr6
          case hy6 => intro w hSw; (try dsimp only at hSw); go_simp; all_goals with_reducible rfl
          try simp only [Act.put, List.setIfInBounds_toArray, List.set_cons_zero, List.set_cons_succ]
          refine wpAnyH_ready (rs := [8]) (by kernel_rfl) (by simp) ?_
          refine AllReadyH.cons (i := 8) (o := { dst := some 43, op := Go.Op.load 3 (Go.Operand.tmp 42), type := 3, pos := "canon.go:21", after := #[{ on := 7, ground := Go.Ground.data }], guard := none }) rfl (fun K hK => ?_) AllReadyH.nil
          go_simp
          refine hK.out _ _ ?_ (fun hH3 => ?_)
          · exact hH2
          clear hK K
          try simp only [Act.put, List.setIfInBounds_toArray, List.set_cons_zero, List.set_cons_succ]
          refine wpAnyH_take (i := 9) (oi := { dst := some 44, op := Go.Op.indexAddr 22 (Go.Operand.tmp 38) (Go.Operand.tmp 43), type := 0, pos := "canon.go:21", after := #[{ on := 3, ground := Go.Ground.data }, { on := 8, ground := Go.Ground.data }], guard := none }) (v := ?vv7) rfl (by kernel_rfl) (by kernel_rfl) (by kernel_rfl) (fun _ _ _ h => h) (Or.inl ⟨by rfl, ?hy7⟩) (by assumption) ?rr7
          case hy7 => intro w hSw; (try dsimp only at hSw); go_simp; all_goals with_reducible rfl
          try simp only [Act.put, List.setIfInBounds_toArray, List.set_cons_zero, List.set_cons_succ]
          refine wpAnyH_take (i := 10) (oi := { dst := some 45, op := Go.Op.load 41 (Go.Operand.tmp 44), type := 41, pos := "canon.go:21", after := #[{ on := 9, ground := Go.Ground.data }], guard := none }) (v := ?vv8) rfl (by kernel_rfl) (by kernel_rfl) (by kernel_rfl) (fun _ _ _ h => h) (Or.inl ⟨by rfl, ?hy8⟩) (by assumption) ?rr8
          case hy8 => intro w hSw; (try dsimp only at hSw); go_simp; all_goals with_reducible rfl
          try simp only [Act.put, List.setIfInBounds_toArray, List.set_cons_zero, List.set_cons_succ]
          refine wpAnyH_ready (rs := [11]) (by kernel_rfl) (by simp) ?_
          refine AllReadyH.cons (i := 11) (o := { dst := some 46, op := Go.Op.call { callee := Go.Callee.value (Go.Operand.func 114), args := #[Go.Operand.tmp 8, Go.Operand.tmp 45], argTypes := #[113, 41] }, type := 41, pos := "canon.go:21", after := #[{ on := 10, ground := Go.Ground.data }], guard := none }) rfl (fun K hK => ?_) AllReadyH.nil
          go_simp
          go_at_call 114
          refine (renumbered_any h M o (w1.heap.size + 1) w1.heap.size (some ⟨bt, ot, none⟩) S c6 ds w _ (HCW.out.later (Below.refl _ _).drew).num (HBX.out.drew) HIN.out (by omega) (by omega) (fun a ha => by have := HA6.out a ha; omega) HVS.out hle HOK.out hol).mono ?_
          rintro e w' ⟨A7, c7, S3, d3, rfl, hs3, ht3, hown3, hoff3⟩
          have hC3 := (HCW.out.later (Below.refl _ _).drew).turn ht3 hs3
          have hb := ht3.below (b := w.heap.size + 2) (show w.heap.size + 2 ≤ wo.heap.size by have := HCW.out.turns.size; omega) (by omega) (by omega) (fun a ha => by have := HA6.out a ha; omega)
          have hzw := ht3.size
          obtain ⟨A8, c8, w6, hrun, hO6, hg6⟩ := run_app_obj w' (w2.heap.size + 1) wo.heap.size A5 c5 ls hC3.own (by omega) (cnO h (meets h M (edgesO o)) o) S3 d3 hown3 (show w2.heap.size + 1 ≤ wo.heap.size from HCW.out.box.lt) (fun i li a hi ha => HCW.out.own.blk_lt hi ha) (by have := hC3.box.lt; omega)
          have HRUN := hid hrun
          have HAL := hid (below_alloc w' (.cells (obC (cnO h (meets h M (edgesO o)) o) S3 d3) 41))
          have HC4 := hid ((hC3.later HAL.out).push hO6 hoff3 hg6)
          have gw := hC3.box.cell 0
          simp only [List.getElem?_toArray, List.getElem?_cons_zero] at gw
          have gx := cell_old (ob := .cells (obC (cnO h (meets h M (edgesO o)) o) S3 d3) 41) gw
          unfold obC at gx
          have hbz : w.heap.size + 2 ≤ (w'.alloc (.cells (obC (cnO h (meets h M (edgesO o)) o) S3 d3) 41)).heap.size := by have := hC3.box.lt; simp; omega
          have HB6 : Hid (Below (w.heap.size + 2) (w'.alloc (.cells (obC (cnO h (meets h M (edgesO o)) o) S3 d3) 41)) w6) := ⟨hg6.os, hg6.tape, hg6.output, hg6.size, fun j hj => hg6.block j (by omega) (fun e => by have := (hC3.own.row.lt _ e.symm).1; omega)⟩
          have p0 := HC4.out.2.cell 0
          have pf0 := HC4.out.2.frozen 0
          simp only [List.getElem?_toArray, List.getElem?_cons_zero] at p0
          clear hs3 ht3 hown3 hoff3 hrun hO6 hg6 hC3 nd td
          refine hK.out _ _ ?_ (fun hH4 => ?_)
          · exact ⟨(hb.cell (p := ⟨b, off + q * 6, none⟩) (by show b < _; omega)).trans hH3.1, (hb.cell (p := ⟨b, off + q * 6 + 1, none⟩) (by show b < _; omega)).trans hH3.2.1, (hb.cell (p := ⟨b, off + q * 6 + 2, none⟩) (by show b < _; omega)).trans hH3.2.2.1, (hb.cell (p := ⟨b, off + q * 6 + 3, none⟩) (by show b < _; omega)).trans hH3.2.2.2.1, (hb.cell (p := ⟨b, off + q * 6 + 4, none⟩) (by show b < _; omega)).trans hH3.2.2.2.2.1, (hb.cell (p := ⟨b, off + q * 6 + 5, none⟩) (by show b < _; omega)).trans hH3.2.2.2.2.2.1, (hb.cell (p := ⟨w.heap.size, 0, none⟩) (by show w.heap.size < _; omega)).trans hH3.2.2.2.2.2.2⟩
          clear hK K
          try simp only [Act.put, List.setIfInBounds_toArray, List.set_cons_zero, List.set_cons_succ]
          clear hb
          refine wpAnyH_ready (rs := [12]) (by kernel_rfl) (by simp) ?_
          refine AllReadyH.cons (i := 12) (o := { dst := some 47, op := Go.Op.buildSlice 22 1 #[(0, Go.Operand.tmp 46)], type := 22, pos := "canon.go:21", after := #[{ on := 11, ground := Go.Ground.data }], guard := none }) rfl (fun K hK => ?_) AllReadyH.nil
          go_simp
          refine hK.out _ _ ?_ (fun hH5 => ?_)
          · exact ⟨cell_old hH4.1, cell_old hH4.2.1, cell_old hH4.2.2.1, cell_old hH4.2.2.2.1, cell_old hH4.2.2.2.2.1, cell_old hH4.2.2.2.2.2.1, cell_old hH4.2.2.2.2.2.2⟩
          clear hK K
          try simp only [Act.put, List.setIfInBounds_toArray, List.set_cons_zero, List.set_cons_succ]
          refine wpAnyH_ready (rs := [13]) (by kernel_rfl) (by simp) ?_
          refine AllReadyH.cons (i := 13) (o := { dst := some 48, op := Go.Op.call { callee := Go.Callee.builtin Go.Builtin.append, args := #[Go.Operand.tmp 36, Go.Operand.tmp 47], argTypes := #[22, 22] }, type := 22, pos := "canon.go:21", after := #[{ on := 1, ground := Go.Ground.data }, { on := 12, ground := Go.Ground.data }, { on := 11, ground := Go.Ground.chain }], guard := none }) rfl (fun K hK => ?_) AllReadyH.nil
          rw [if_pos (by rfl)]
          refine wp_app_run (.tmp 36) (.tmp 47) 22 rfl _ _ HRUN.out ?_
          refine hK.out _ _ ?_ (fun hH6 => ?_)
          · exact ⟨(HB6.out.cell (p := ⟨b, off + q * 6, none⟩) (by show b < _; omega)).trans hH5.1, (HB6.out.cell (p := ⟨b, off + q * 6 + 1, none⟩) (by show b < _; omega)).trans hH5.2.1, (HB6.out.cell (p := ⟨b, off + q * 6 + 2, none⟩) (by show b < _; omega)).trans hH5.2.2.1, (HB6.out.cell (p := ⟨b, off + q * 6 + 3, none⟩) (by show b < _; omega)).trans hH5.2.2.2.1, (HB6.out.cell (p := ⟨b, off + q * 6 + 4, none⟩) (by show b < _; omega)).trans hH5.2.2.2.2.1, (HB6.out.cell (p := ⟨b, off + q * 6 + 5, none⟩) (by show b < _; omega)).trans hH5.2.2.2.2.2.1, (HB6.out.cell (p := ⟨w.heap.size, 0, none⟩) (by show w.heap.size < _; omega)).trans hH5.2.2.2.2.2.2⟩
          clear hK K
          try simp only [Act.put, List.setIfInBounds_toArray, List.set_cons_zero, List.set_cons_succ]
          refine wpAnyH_take (i := 14) (oi := { dst := some 49, op := Go.Op.fieldAddr 24 (Go.Operand.tmp 10) 0, type := 0, pos := "canon.go:21", after := #[{ on := 0, ground := Go.Ground.phase }, { on := 1, ground := Go.Ground.phase }, { on := 2, ground := Go.Ground.phase }, { on := 3, ground := Go.Ground.phase }, { on := 4, ground := Go.Ground.phase }, { on := 5, ground := Go.Ground.phase }, { on := 6, ground := Go.Ground.phase }, { on := 7, ground := Go.Ground.phase }, { on := 8, ground := Go.Ground.phase }, { on := 9, ground := Go.Ground.phase }, { on := 10, ground := Go.Ground.phase }, { on := 11, ground := Go.Ground.phase }, { on := 12, ground := Go.Ground.phase }, { on := 13, ground := Go.Ground.phase }], guard := none }) (v := ?vv9) rfl (by kernel_rfl) (by kernel_rfl) (by kernel_rfl) (fun _ _ _ h => h) (Or.inl ⟨by rfl, ?hy9⟩) (by assumption) ?rr9
          case hy9 => intro w hSw; (try dsimp only at hSw); go_simp; all_goals with_reducible rfl
          try simp only [Act.put, List.setIfInBounds_toArray, List.set_cons_zero, List.set_cons_succ]
          refine wpAnyH_ready (rs := [15]) (by kernel_rfl) (by simp) ?_
          refine AllReadyH.cons (i := 15) (o := { dst := none, op := Go.Op.store 22 (Go.Operand.tmp 49) (Go.Operand.tmp 48), type := 0, pos := "canon.go:21", after := #[{ on := 14, ground := Go.Ground.data }, { on := 13, ground := Go.Ground.data }, { on := 13, ground := Go.Ground.chain }, { on := 0, ground := Go.Ground.phase }, { on := 1, ground := Go.Ground.phase }, { on := 2, ground := Go.Ground.phase }, { on := 3, ground := Go.Ground.phase }, { on := 4, ground := Go.Ground.phase }, { on := 5, ground := Go.Ground.phase }, { on := 6, ground := Go.Ground.phase }, { on := 7, ground := Go.Ground.phase }, { on := 8, ground := Go.Ground.phase }, { on := 9, ground := Go.Ground.phase }, { on := 10, ground := Go.Ground.phase }, { on := 11, ground := Go.Ground.phase }, { on := 12, ground := Go.Ground.phase }, { on := 13, ground := Go.Ground.phase }], guard := none }) rfl (fun K hK => ?_) AllReadyH.nil
          go_simp
          refine hK.out _ _ ?_ (fun hH7 => ?_)
          · exact ⟨far_cell (by omega) hH6.1, far_cell (by omega) hH6.2.1, far_cell (by omega) hH6.2.2.1, far_cell (by omega) hH6.2.2.2.1, far_cell (by omega) hH6.2.2.2.2.1, far_cell (by omega) hH6.2.2.2.2.2.1, far_cell (by omega) hH6.2.2.2.2.2.2⟩
          clear hK K
          try simp only [Act.put, List.setIfInBounds_toArray, List.set_cons_zero, List.set_cons_succ]
          refine wpAnyH_done (by kernel_rfl) ?_ _
          go_wp2_with fail
          go_roundw
          case rel =>
            obtain ⟨t2, ht2⟩ := meets_pre h (edgesO o) M
            have hml2 : M.length ≤ (meets h M (edgesO o)).length := by rw [ht2, List.length_append]; omega
            exact ⟨k + 1, meets h M (edgesO o), A8, A7, c8, c7, ls ++ [⟨cnO h (meets h M (edgesO o)) o, S3, d3⟩], by omega, by go_num, HC4.out.1, by rw [List.map_append, HLS.out, HKS.out]; rfl, HGS.out, HDS.out⟩
          case measure => simp [intOf]; omega
        · go_simp
          refine hK.out _ _ ?_ (fun hH1 => ?_)
          · exact hH0
          clear hK K
          try simp only [Act.put, List.setIfInBounds_toArray, List.set_cons_zero, List.set_cons_succ]
          refine wpAnyH_take (i := 7) (oi := { dst := some 42, op := Go.Op.indexAddr 34 (Go.Operand.tmp 40) (Go.Operand.tmp 41), type := 0, pos := "canon.go:21", after := #[{ on := 5, ground := Go.Ground.data }, { on := 6, ground := Go.Ground.data }], guard := none }) (v := ?vv10) rfl (by kernel_rfl) (by kernel_rfl) (by kernel_rfl) (fun _ _ _ h => h) (Or.inl ⟨by rfl, ?hy10⟩) (by assumption) ?rr10
          case hy10 => intro w hSw; (try dsimp only at hSw); go_simp; all_goals with_reducible rfl
          try simp only [Act.put, List.setIfInBounds_toArray, List.set_cons_zero, List.set_cons_succ]
          refine wpAnyH_ready (rs := [1, 8]) (by kernel_rfl) (by simp) ?_
          refine AllReadyH.cons (i := 1) (o := { dst := some 36, op := Go.Op.load 22 (Go.Operand.tmp 35), type := 22, pos := "canon.go:21", after := #[{ on := 0, ground := Go.Ground.data }], guard := none }) rfl (fun K hK => ?_) (AllReadyH.cons (i := 8) (o := { dst := some 43, op := Go.Op.load 3 (Go.Operand.tmp 42), type := 3, pos := "canon.go:21", after := #[{ on := 7, ground := Go.Ground.data }], guard := none }) rfl (fun K hK => ?_) AllReadyH.nil)
          · go_simp
            refine hK.out _ _ ?_ (fun hH2 => ?_)
            · exact hH1
            clear hK K
            try simp only [Act.put, List.setIfInBounds_toArray, List.set_cons_zero, List.set_cons_succ]
            refine wpAnyH_ready (rs := [8]) (by kernel_rfl) (by simp) ?_
            refine AllReadyH.cons (i := 8) (o := { dst := some 43, op := Go.Op.load 3 (Go.Operand.tmp 42), type := 3, pos := "canon.go:21", after := #[{ on := 7, ground := Go.Ground.data }], guard := none }) rfl (fun K hK => ?_) AllReadyH.nil
            go_simp
            refine hK.out _ _ ?_ (fun hH3 => ?_)
            · exact hH2
            clear hK K
            try simp only [Act.put, List.setIfInBounds_toArray, List.set_cons_zero, List.set_cons_succ]
            refine wpAnyH_take (i := 9) (oi := { dst := some 44, op := Go.Op.indexAddr 22 (Go.Operand.tmp 38) (Go.Operand.tmp 43), type := 0, pos := "canon.go:21", after := #[{ on := 3, ground := Go.Ground.data }, { on := 8, ground := Go.Ground.data }], guard := none }) (v := ?vv11) rfl (by kernel_rfl) (by kernel_rfl) (by kernel_rfl) (fun _ _ _ h => h) (Or.inl ⟨by rfl, ?hy11⟩) (by assumption) ?rr11
            case hy11 => intro w hSw; (try dsimp only at hSw); go_simp; all_goals with_reducible rfl
            try simp only [Act.put, List.setIfInBounds_toArray, List.set_cons_zero, List.set_cons_succ]
            refine wpAnyH_take (i := 10) (oi := { dst := some 45, op := Go.Op.load 41 (Go.Operand.tmp 44), type := 41, pos := "canon.go:21", after := #[{ on := 9, ground := Go.Ground.data }], guard := none }) (v := ?vv12) rfl (by kernel_rfl) (by kernel_rfl) (by kernel_rfl) (fun _ _ _ h => h) (Or.inl ⟨by rfl, ?hy12⟩) (by assumption) ?rr12
            case hy12 => intro w hSw; (try dsimp only at hSw); go_simp; all_goals with_reducible rfl
            try simp only [Act.put, List.setIfInBounds_toArray, List.set_cons_zero, List.set_cons_succ]
            refine wpAnyH_ready (rs := [11]) (by kernel_rfl) (by simp) ?_
            refine AllReadyH.cons (i := 11) (o := { dst := some 46, op := Go.Op.call { callee := Go.Callee.value (Go.Operand.func 114), args := #[Go.Operand.tmp 8, Go.Operand.tmp 45], argTypes := #[113, 41] }, type := 41, pos := "canon.go:21", after := #[{ on := 10, ground := Go.Ground.data }], guard := none }) rfl (fun K hK => ?_) AllReadyH.nil
            go_simp
            go_at_call 114
            refine (renumbered_any h M o (w1.heap.size + 1) w1.heap.size (some ⟨bt, ot, none⟩) S c6 ds w _ (HCW.out.later (Below.refl _ _).drew).num (HBX.out.drew) HIN.out (by omega) (by omega) (fun a ha => by have := HA6.out a ha; omega) HVS.out hle HOK.out hol).mono ?_
            rintro e w' ⟨A7, c7, S3, d3, rfl, hs3, ht3, hown3, hoff3⟩
            have hC3 := (HCW.out.later (Below.refl _ _).drew).turn ht3 hs3
            have hb := ht3.below (b := w.heap.size + 2) (show w.heap.size + 2 ≤ wo.heap.size by have := HCW.out.turns.size; omega) (by omega) (by omega) (fun a ha => by have := HA6.out a ha; omega)
            have hzw := ht3.size
            obtain ⟨A8, c8, w6, hrun, hO6, hg6⟩ := run_app_obj w' (w2.heap.size + 1) wo.heap.size A5 c5 ls hC3.own (by omega) (cnO h (meets h M (edgesO o)) o) S3 d3 hown3 (show w2.heap.size + 1 ≤ wo.heap.size from HCW.out.box.lt) (fun i li a hi ha => HCW.out.own.blk_lt hi ha) (by have := hC3.box.lt; omega)
            have HRUN := hid hrun
            have HAL := hid (below_alloc w' (.cells (obC (cnO h (meets h M (edgesO o)) o) S3 d3) 41))
            have HC4 := hid ((hC3.later HAL.out).push hO6 hoff3 hg6)
            have gw := hC3.box.cell 0
            simp only [List.getElem?_toArray, List.getElem?_cons_zero] at gw
            have gx := cell_old (ob := .cells (obC (cnO h (meets h M (edgesO o)) o) S3 d3) 41) gw
            unfold obC at gx
            have hbz : w.heap.size + 2 ≤ (w'.alloc (.cells (obC (cnO h (meets h M (edgesO o)) o) S3 d3) 41)).heap.size := by have := hC3.box.lt; simp; omega
            have HB6 : Hid (Below (w.heap.size + 2) (w'.alloc (.cells (obC (cnO h (meets h M (edgesO o)) o) S3 d3) 41)) w6) := ⟨hg6.os, hg6.tape, hg6.output, hg6.size, fun j hj => hg6.block j (by omega) (fun e => by have := (hC3.own.row.lt _ e.symm).1; omega)⟩
            have p0 := HC4.out.2.cell 0
            have pf0 := HC4.out.2.frozen 0
            simp only [List.getElem?_toArray, List.getElem?_cons_zero] at p0
            clear hs3 ht3 hown3 hoff3 hrun hO6 hg6 hC3 nd td
            refine hK.out _ _ ?_ (fun hH4 => ?_)
            · exact ⟨(hb.cell (p := ⟨b, off + q * 6, none⟩) (by show b < _; omega)).trans hH3.1, (hb.cell (p := ⟨b, off + q * 6 + 1, none⟩) (by show b < _; omega)).trans hH3.2.1, (hb.cell (p := ⟨b, off + q * 6 + 2, none⟩) (by show b < _; omega)).trans hH3.2.2.1, (hb.cell (p := ⟨b, off + q * 6 + 3, none⟩) (by show b < _; omega)).trans hH3.2.2.2.1, (hb.cell (p := ⟨b, off + q * 6 + 4, none⟩) (by show b < _; omega)).trans hH3.2.2.2.2.1, (hb.cell (p := ⟨b, off + q * 6 + 5, none⟩) (by show b < _; omega)).trans hH3.2.2.2.2.2.1, (hb.cell (p := ⟨w.heap.size, 0, none⟩) (by show w.heap.size < _; omega)).trans hH3.2.2.2.2.2.2⟩
            clear hK K
            try simp only [Act.put, List.setIfInBounds_toArray, List.set_cons_zero, List.set_cons_succ]
            clear hb
            refine wpAnyH_ready (rs := [12]) (by kernel_rfl) (by simp) ?_
            refine AllReadyH.cons (i := 12) (o := { dst := some 47, op := Go.Op.buildSlice 22 1 #[(0, Go.Operand.tmp 46)], type := 22, pos := "canon.go:21", after := #[{ on := 11, ground := Go.Ground.data }], guard := none }) rfl (fun K hK => ?_) AllReadyH.nil
            go_simp
            refine hK.out _ _ ?_ (fun hH5 => ?_)
            · exact ⟨cell_old hH4.1, cell_old hH4.2.1, cell_old hH4.2.2.1, cell_old hH4.2.2.2.1, cell_old hH4.2.2.2.2.1, cell_old hH4.2.2.2.2.2.1, cell_old hH4.2.2.2.2.2.2⟩
            clear hK K
            try simp only [Act.put, List.setIfInBounds_toArray, List.set_cons_zero, List.set_cons_succ]
            refine wpAnyH_ready (rs := [13]) (by kernel_rfl) (by simp) ?_
            refine AllReadyH.cons (i := 13) (o := { dst := some 48, op := Go.Op.call { callee := Go.Callee.builtin Go.Builtin.append, args := #[Go.Operand.tmp 36, Go.Operand.tmp 47], argTypes := #[22, 22] }, type := 22, pos := "canon.go:21", after := #[{ on := 1, ground := Go.Ground.data }, { on := 12, ground := Go.Ground.data }, { on := 11, ground := Go.Ground.chain }], guard := none }) rfl (fun K hK => ?_) AllReadyH.nil
            rw [if_pos (by rfl)]
            refine wp_app_run (.tmp 36) (.tmp 47) 22 rfl _ _ HRUN.out ?_
            refine hK.out _ _ ?_ (fun hH6 => ?_)
            · exact ⟨(HB6.out.cell (p := ⟨b, off + q * 6, none⟩) (by show b < _; omega)).trans hH5.1, (HB6.out.cell (p := ⟨b, off + q * 6 + 1, none⟩) (by show b < _; omega)).trans hH5.2.1, (HB6.out.cell (p := ⟨b, off + q * 6 + 2, none⟩) (by show b < _; omega)).trans hH5.2.2.1, (HB6.out.cell (p := ⟨b, off + q * 6 + 3, none⟩) (by show b < _; omega)).trans hH5.2.2.2.1, (HB6.out.cell (p := ⟨b, off + q * 6 + 4, none⟩) (by show b < _; omega)).trans hH5.2.2.2.2.1, (HB6.out.cell (p := ⟨b, off + q * 6 + 5, none⟩) (by show b < _; omega)).trans hH5.2.2.2.2.2.1, (HB6.out.cell (p := ⟨w.heap.size, 0, none⟩) (by show w.heap.size < _; omega)).trans hH5.2.2.2.2.2.2⟩
            clear hK K
            try simp only [Act.put, List.setIfInBounds_toArray, List.set_cons_zero, List.set_cons_succ]
            refine wpAnyH_take (i := 14) (oi := { dst := some 49, op := Go.Op.fieldAddr 24 (Go.Operand.tmp 10) 0, type := 0, pos := "canon.go:21", after := #[{ on := 0, ground := Go.Ground.phase }, { on := 1, ground := Go.Ground.phase }, { on := 2, ground := Go.Ground.phase }, { on := 3, ground := Go.Ground.phase }, { on := 4, ground := Go.Ground.phase }, { on := 5, ground := Go.Ground.phase }, { on := 6, ground := Go.Ground.phase }, { on := 7, ground := Go.Ground.phase }, { on := 8, ground := Go.Ground.phase }, { on := 9, ground := Go.Ground.phase }, { on := 10, ground := Go.Ground.phase }, { on := 11, ground := Go.Ground.phase }, { on := 12, ground := Go.Ground.phase }, { on := 13, ground := Go.Ground.phase }], guard := none }) (v := ?vv13) rfl (by kernel_rfl) (by kernel_rfl) (by kernel_rfl) (fun _ _ _ h => h) (Or.inl ⟨by rfl, ?hy13⟩) (by assumption) ?rr13
            case hy13 => intro w hSw; (try dsimp only at hSw); go_simp; all_goals with_reducible rfl
            try simp only [Act.put, List.setIfInBounds_toArray, List.set_cons_zero, List.set_cons_succ]
            refine wpAnyH_ready (rs := [15]) (by kernel_rfl) (by simp) ?_
            refine AllReadyH.cons (i := 15) (o := { dst := none, op := Go.Op.store 22 (Go.Operand.tmp 49) (Go.Operand.tmp 48), type := 0, pos := "canon.go:21", after := #[{ on := 14, ground := Go.Ground.data }, { on := 13, ground := Go.Ground.data }, { on := 13, ground := Go.Ground.chain }, { on := 0, ground := Go.Ground.phase }, { on := 1, ground := Go.Ground.phase }, { on := 2, ground := Go.Ground.phase }, { on := 3, ground := Go.Ground.phase }, { on := 4, ground := Go.Ground.phase }, { on := 5, ground := Go.Ground.phase }, { on := 6, ground := Go.Ground.phase }, { on := 7, ground := Go.Ground.phase }, { on := 8, ground := Go.Ground.phase }, { on := 9, ground := Go.Ground.phase }, { on := 10, ground := Go.Ground.phase }, { on := 11, ground := Go.Ground.phase }, { on := 12, ground := Go.Ground.phase }, { on := 13, ground := Go.Ground.phase }], guard := none }) rfl (fun K hK => ?_) AllReadyH.nil
            go_simp
            refine hK.out _ _ ?_ (fun hH7 => ?_)
            · exact ⟨far_cell (by omega) hH6.1, far_cell (by omega) hH6.2.1, far_cell (by omega) hH6.2.2.1, far_cell (by omega) hH6.2.2.2.1, far_cell (by omega) hH6.2.2.2.2.1, far_cell (by omega) hH6.2.2.2.2.2.1, far_cell (by omega) hH6.2.2.2.2.2.2⟩
            clear hK K
            try simp only [Act.put, List.setIfInBounds_toArray, List.set_cons_zero, List.set_cons_succ]
            refine wpAnyH_done (by kernel_rfl) ?_ _
            go_wp2_with fail
            go_roundw
            case rel =>
              obtain ⟨t2, ht2⟩ := meets_pre h (edgesO o) M
              have hml2 : M.length ≤ (meets h M (edgesO o)).length := by rw [ht2, List.length_append]; omega
              exact ⟨k + 1, meets h M (edgesO o), A8, A7, c8, c7, ls ++ [⟨cnO h (meets h M (edgesO o)) o, S3, d3⟩], by omega, by go_num, HC4.out.1, by rw [List.map_append, HLS.out, HKS.out]; rfl, HGS.out, HDS.out⟩
            case measure => simp [intOf]; omega
          · go_simp
            refine hK.out _ _ ?_ (fun hH2 => ?_)
            · exact hH1
            clear hK K
            try simp only [Act.put, List.setIfInBounds_toArray, List.set_cons_zero, List.set_cons_succ]
            refine wpAnyH_take (i := 9) (oi := { dst := some 44, op := Go.Op.indexAddr 22 (Go.Operand.tmp 38) (Go.Operand.tmp 43), type := 0, pos := "canon.go:21", after := #[{ on := 3, ground := Go.Ground.data }, { on := 8, ground := Go.Ground.data }], guard := none }) (v := ?vv14) rfl (by kernel_rfl) (by kernel_rfl) (by kernel_rfl) (fun _ _ _ h => h) (Or.inl ⟨by rfl, ?hy14⟩) (by assumption) ?rr14
            case hy14 => intro w hSw; (try dsimp only at hSw); go_simp; all_goals with_reducible rfl
            try simp only [Act.put, List.setIfInBounds_toArray, List.set_cons_zero, List.set_cons_succ]
            refine wpAnyH_take (i := 10) (oi := { dst := some 45, op := Go.Op.load 41 (Go.Operand.tmp 44), type := 41, pos := "canon.go:21", after := #[{ on := 9, ground := Go.Ground.data }], guard := none }) (v := ?vv15) rfl (by kernel_rfl) (by kernel_rfl) (by kernel_rfl) (fun _ _ _ h => h) (Or.inl ⟨by rfl, ?hy15⟩) (by assumption) ?rr15
            case hy15 => intro w hSw; (try dsimp only at hSw); go_simp; all_goals with_reducible rfl
            try simp only [Act.put, List.setIfInBounds_toArray, List.set_cons_zero, List.set_cons_succ]
            refine wpAnyH_ready (rs := [1, 11]) (by kernel_rfl) (by simp) ?_
            refine AllReadyH.cons (i := 1) (o := { dst := some 36, op := Go.Op.load 22 (Go.Operand.tmp 35), type := 22, pos := "canon.go:21", after := #[{ on := 0, ground := Go.Ground.data }], guard := none }) rfl (fun K hK => ?_) (AllReadyH.cons (i := 11) (o := { dst := some 46, op := Go.Op.call { callee := Go.Callee.value (Go.Operand.func 114), args := #[Go.Operand.tmp 8, Go.Operand.tmp 45], argTypes := #[113, 41] }, type := 41, pos := "canon.go:21", after := #[{ on := 10, ground := Go.Ground.data }], guard := none }) rfl (fun K hK => ?_) AllReadyH.nil)
            · go_simp
              refine hK.out _ _ ?_ (fun hH3 => ?_)
              · exact hH2
              clear hK K
              try simp only [Act.put, List.setIfInBounds_toArray, List.set_cons_zero, List.set_cons_succ]
              refine wpAnyH_ready (rs := [11]) (by kernel_rfl) (by simp) ?_
              refine AllReadyH.cons (i := 11) (o := { dst := some 46, op := Go.Op.call { callee := Go.Callee.value (Go.Operand.func 114), args := #[Go.Operand.tmp 8, Go.Operand.tmp 45], argTypes := #[113, 41] }, type := 41, pos := "canon.go:21", after := #[{ on := 10, ground := Go.Ground.data }], guard := none }) rfl (fun K hK => ?_) AllReadyH.nil
              go_simp
              go_at_call 114
              refine (renumbered_any h M o (w1.heap.size + 1) w1.heap.size (some ⟨bt, ot, none⟩) S c6 ds w _ (HCW.out.later (Below.refl _ _).drew).num (HBX.out.drew) HIN.out (by omega) (by omega) (fun a ha => by have := HA6.out a ha; omega) HVS.out hle HOK.out hol).mono ?_
              rintro e w' ⟨A7, c7, S3, d3, rfl, hs3, ht3, hown3, hoff3⟩
              have hC3 := (HCW.out.later (Below.refl _ _).drew).turn ht3 hs3
              have hb := ht3.below (b := w.heap.size + 2) (show w.heap.size + 2 ≤ wo.heap.size by have := HCW.out.turns.size; omega) (by omega) (by omega) (fun a ha => by have := HA6.out a ha; omega)
              have hzw := ht3.size
              obtain ⟨A8, c8, w6, hrun, hO6, hg6⟩ := run_app_obj w' (w2.heap.size + 1) wo.heap.size A5 c5 ls hC3.own (by omega) (cnO h (meets h M (edgesO o)) o) S3 d3 hown3 (show w2.heap.size + 1 ≤ wo.heap.size from HCW.out.box.lt) (fun i li a hi ha => HCW.out.own.blk_lt hi ha) (by have := hC3.box.lt; omega)
              have HRUN := hid hrun
              have HAL := hid (below_alloc w' (.cells (obC (cnO h (meets h M (edgesO o)) o) S3 d3) 41))
              have HC4 := hid ((hC3.later HAL.out).push hO6 hoff3 hg6)
              have gw := hC3.box.cell 0
              simp only [List.getElem?_toArray, List.getElem?_cons_zero] at gw
              have gx := cell_old (ob := .cells (obC (cnO h (meets h M (edgesO o)) o) S3 d3) 41) gw
              unfold obC at gx
              have hbz : w.heap.size + 2 ≤ (w'.alloc (.cells (obC (cnO h (meets h M (edgesO o)) o) S3 d3) 41)).heap.size := by have := hC3.box.lt; simp; omega
              have HB6 : Hid (Below (w.heap.size + 2) (w'.alloc (.cells (obC (cnO h (meets h M (edgesO o)) o) S3 d3) 41)) w6) := ⟨hg6.os, hg6.tape, hg6.output, hg6.size, fun j hj => hg6.block j (by omega) (fun e => by have := (hC3.own.row.lt _ e.symm).1; omega)⟩
              have p0 := HC4.out.2.cell 0
              have pf0 := HC4.out.2.frozen 0
              simp only [List.getElem?_toArray, List.getElem?_cons_zero] at p0
              clear hs3 ht3 hown3 hoff3 hrun hO6 hg6 hC3 nd td
              refine hK.out _ _ ?_ (fun hH4 => ?_)
              · exact ⟨(hb.cell (p := ⟨b, off + q * 6, none⟩) (by show b < _; omega)).trans hH3.1, (hb.cell (p := ⟨b, off + q * 6 + 1, none⟩) (by show b < _; omega)).trans hH3.2.1, (hb.cell (p := ⟨b, off + q * 6 + 2, none⟩) (by show b < _; omega)).trans hH3.2.2.1, (hb.cell (p := ⟨b, off + q * 6 + 3, none⟩) (by show b < _; omega)).trans hH3.2.2.2.1, (hb.cell (p := ⟨b, off + q * 6 + 4, none⟩) (by show b < _; omega)).trans hH3.2.2.2.2.1, (hb.cell (p := ⟨b, off + q * 6 + 5, none⟩) (by show b < _; omega)).trans hH3.2.2.2.2.2.1, (hb.cell (p := ⟨w.heap.size, 0, none⟩) (by show w.heap.size < _; omega)).trans hH3.2.2.2.2.2.2⟩
              clear hK K
              try simp only [Act.put, List.setIfInBounds_toArray, List.set_cons_zero, List.set_cons_succ]
              clear hb
              refine wpAnyH_ready (rs := [12]) (by kernel_rfl) (by simp) ?_
              refine AllReadyH.cons (i := 12) (o := { dst := some 47, op := Go.Op.buildSlice 22 1 #[(0, Go.Operand.tmp 46)], type := 22, pos := "canon.go:21", after := #[{ on := 11, ground := Go.Ground.data }], guard := none }) rfl (fun K hK => ?_) AllReadyH.nil
              go_simp
              refine hK.out _ _ ?_ (fun hH5 => ?_)
              · exact ⟨cell_old hH4.1, cell_old hH4.2.1, cell_old hH4.2.2.1, cell_old hH4.2.2.2.1, cell_old hH4.2.2.2.2.1, cell_old hH4.2.2.2.2.2.1, cell_old hH4.2.2.2.2.2.2⟩
              clear hK K
              try simp only [Act.put, List.setIfInBounds_toArray, List.set_cons_zero, List.set_cons_succ]
              refine wpAnyH_ready (rs := [13]) (by kernel_rfl) (by simp) ?_
              refine AllReadyH.cons (i := 13) (o := { dst := some 48, op := Go.Op.call { callee := Go.Callee.builtin Go.Builtin.append, args := #[Go.Operand.tmp 36, Go.Operand.tmp 47], argTypes := #[22, 22] }, type := 22, pos := "canon.go:21", after := #[{ on := 1, ground := Go.Ground.data }, { on := 12, ground := Go.Ground.data }, { on := 11, ground := Go.Ground.chain }], guard := none }) rfl (fun K hK => ?_) AllReadyH.nil
              rw [if_pos (by rfl)]
              refine wp_app_run (.tmp 36) (.tmp 47) 22 rfl _ _ HRUN.out ?_
              refine hK.out _ _ ?_ (fun hH6 => ?_)
              · exact ⟨(HB6.out.cell (p := ⟨b, off + q * 6, none⟩) (by show b < _; omega)).trans hH5.1, (HB6.out.cell (p := ⟨b, off + q * 6 + 1, none⟩) (by show b < _; omega)).trans hH5.2.1, (HB6.out.cell (p := ⟨b, off + q * 6 + 2, none⟩) (by show b < _; omega)).trans hH5.2.2.1, (HB6.out.cell (p := ⟨b, off + q * 6 + 3, none⟩) (by show b < _; omega)).trans hH5.2.2.2.1, (HB6.out.cell (p := ⟨b, off + q * 6 + 4, none⟩) (by show b < _; omega)).trans hH5.2.2.2.2.1, (HB6.out.cell (p := ⟨b, off + q * 6 + 5, none⟩) (by show b < _; omega)).trans hH5.2.2.2.2.2.1, (HB6.out.cell (p := ⟨w.heap.size, 0, none⟩) (by show w.heap.size < _; omega)).trans hH5.2.2.2.2.2.2⟩
              clear hK K
              try simp only [Act.put, List.setIfInBounds_toArray, List.set_cons_zero, List.set_cons_succ]
              refine wpAnyH_take (i := 14) (oi := { dst := some 49, op := Go.Op.fieldAddr 24 (Go.Operand.tmp 10) 0, type := 0, pos := "canon.go:21", after := #[{ on := 0, ground := Go.Ground.phase }, { on := 1, ground := Go.Ground.phase }, { on := 2, ground := Go.Ground.phase }, { on := 3, ground := Go.Ground.phase }, { on := 4, ground := Go.Ground.phase }, { on := 5, ground := Go.Ground.phase }, { on := 6, ground := Go.Ground.phase }, { on := 7, ground := Go.Ground.phase }, { on := 8, ground := Go.Ground.phase }, { on := 9, ground := Go.Ground.phase }, { on := 10, ground := Go.Ground.phase }, { on := 11, ground := Go.Ground.phase }, { on := 12, ground := Go.Ground.phase }, { on := 13, ground := Go.Ground.phase }], guard := none }) (v := ?vv16) rfl (by kernel_rfl) (by kernel_rfl) (by kernel_rfl) (fun _ _ _ h => h) (Or.inl ⟨by rfl, ?hy16⟩) (by assumption) ?rr16
              case hy16 => intro w hSw; (try dsimp only at hSw); go_simp; all_goals with_reducible rfl
              try simp only [Act.put, List.setIfInBounds_toArray, List.set_cons_zero, List.set_cons_succ]
              refine wpAnyH_ready (rs := [15]) (by kernel_rfl) (by simp) ?_
              refine AllReadyH.cons (i := 15) (o := { dst := none, op := Go.Op.store 22 (Go.Operand.tmp 49) (Go.Operand.tmp 48), type := 0, pos := "canon.go:21", after := #[{ on := 14, ground := Go.Ground.data }, { on := 13, ground := Go.Ground.data }, { on := 13, ground := Go.Ground.chain }, { on := 0, ground := Go.Ground.phase }, { on := 1, ground := Go.Ground.phase }, { on := 2, ground := Go.Ground.phase }, { on := 3, ground := Go.Ground.phase }, { on := 4, ground := Go.Ground.phase }, { on := 5, ground := Go.Ground.phase }, { on := 6, ground := Go.Ground.phase }, { on := 7, ground := Go.Ground.phase }, { on := 8, ground := Go.Ground.phase }, { on := 9, ground := Go.Ground.phase }, { on := 10, ground := Go.Ground.phase }, { on := 11, ground := Go.Ground.phase }, { on := 12, ground := Go.Ground.phase }, { on := 13, ground := Go.Ground.phase }], guard := none }) rfl (fun K hK => ?_) AllReadyH.nil
              go_simp
              refine hK.out _ _ ?_ (fun hH7 => ?_)
              · exact ⟨far_cell (by omega) hH6.1, far_cell (by omega) hH6.2.1, far_cell (by omega) hH6.2.2.1, far_cell (by omega) hH6.2.2.2.1, far_cell (by omega) hH6.2.2.2.2.1, far_cell (by omega) hH6.2.2.2.2.2.1, far_cell (by omega) hH6.2.2.2.2.2.2⟩
              clear hK K
              try simp only [Act.put, List.setIfInBounds_toArray, List.set_cons_zero, List.set_cons_succ]
              refine wpAnyH_done (by kernel_rfl) ?_ _
              go_wp2_with fail
              go_roundw
              case rel =>
                obtain ⟨t2, ht2⟩ := meets_pre h (edgesO o) M
                have hml2 : M.length ≤ (meets h M (edgesO o)).length := by rw [ht2, List.length_append]; omega
                exact ⟨k + 1, meets h M (edgesO o), A8, A7, c8, c7, ls ++ [⟨cnO h (meets h M (edgesO o)) o, S3, d3⟩], by omega, by go_num, HC4.out.1, by rw [List.map_append, HLS.out, HKS.out]; rfl, HGS.out, HDS.out⟩
              case measure => simp [intOf]; omega
            · go_simp
              go_at_call 114
              refine (renumbered_any h M o (w1.heap.size + 1) w1.heap.size (some ⟨bt, ot, none⟩) S c6 ds w _ (HCW.out.later (Below.refl _ _).drew).num (HBX.out.drew) HIN.out (by omega) (by omega) (fun a ha => by have := HA6.out a ha; omega) HVS.out hle HOK.out hol).mono ?_
              rintro e w' ⟨A7, c7, S3, d3, rfl, hs3, ht3, hown3, hoff3⟩
              have hC3 := (HCW.out.later (Below.refl _ _).drew).turn ht3 hs3
              have hb := ht3.below (b := w.heap.size + 2) (show w.heap.size + 2 ≤ wo.heap.size by have := HCW.out.turns.size; omega) (by omega) (by omega) (fun a ha => by have := HA6.out a ha; omega)
              have hzw := ht3.size
              obtain ⟨A8, c8, w6, hrun, hO6, hg6⟩ := run_app_obj w' (w2.heap.size + 1) wo.heap.size A5 c5 ls hC3.own (by omega) (cnO h (meets h M (edgesO o)) o) S3 d3 hown3 (show w2.heap.size + 1 ≤ wo.heap.size from HCW.out.box.lt) (fun i li a hi ha => HCW.out.own.blk_lt hi ha) (by have := hC3.box.lt; omega)
              have HRUN := hid hrun
              have HAL := hid (below_alloc w' (.cells (obC (cnO h (meets h M (edgesO o)) o) S3 d3) 41))
              have HC4 := hid ((hC3.later HAL.out).push hO6 hoff3 hg6)
              have gw := hC3.box.cell 0
              simp only [List.getElem?_toArray, List.getElem?_cons_zero] at gw
              have gx := cell_old (ob := .cells (obC (cnO h (meets h M (edgesO o)) o) S3 d3) 41) gw
              unfold obC at gx
              have hbz : w.heap.size + 2 ≤ (w'.alloc (.cells (obC (cnO h (meets h M (edgesO o)) o) S3 d3) 41)).heap.size := by have := hC3.box.lt; simp; omega
              have HB6 : Hid (Below (w.heap.size + 2) (w'.alloc (.cells (obC (cnO h (meets h M (edgesO o)) o) S3 d3) 41)) w6) := ⟨hg6.os, hg6.tape, hg6.output, hg6.size, fun j hj => hg6.block j (by omega) (fun e => by have := (hC3.own.row.lt _ e.symm).1; omega)⟩
              have p0 := HC4.out.2.cell 0
              have pf0 := HC4.out.2.frozen 0
              simp only [List.getElem?_toArray, List.getElem?_cons_zero] at p0
              clear hs3 ht3 hown3 hoff3 hrun hO6 hg6 hC3 nd td
              refine hK.out _ _ ?_ (fun hH3 => ?_)
              · exact ⟨(hb.cell (p := ⟨b, off + q * 6, none⟩) (by show b < _; omega)).trans hH2.1, (hb.cell (p := ⟨b, off + q * 6 + 1, none⟩) (by show b < _; omega)).trans hH2.2.1, (hb.cell (p := ⟨b, off + q * 6 + 2, none⟩) (by show b < _; omega)).trans hH2.2.2.1, (hb.cell (p := ⟨b, off + q * 6 + 3, none⟩) (by show b < _; omega)).trans hH2.2.2.2.1, (hb.cell (p := ⟨b, off + q * 6 + 4, none⟩) (by show b < _; omega)).trans hH2.2.2.2.2.1, (hb.cell (p := ⟨b, off + q * 6 + 5, none⟩) (by show b < _; omega)).trans hH2.2.2.2.2.2.1, (hb.cell (p := ⟨w.heap.size, 0, none⟩) (by show w.heap.size < _; omega)).trans hH2.2.2.2.2.2.2⟩
              clear hK K
              try simp only [Act.put, List.setIfInBounds_toArray, List.set_cons_zero, List.set_cons_succ]
              clear hb
              refine wpAnyH_ready (rs := [1, 12]) (by kernel_rfl) (by simp) ?_
              refine AllReadyH.cons (i := 1) (o := { dst := some 36, op := Go.Op.load 22 (Go.Operand.tmp 35), type := 22, pos := "canon.go:21", after := #[{ on := 0, ground := Go.Ground.data }], guard := none }) rfl (fun K hK => ?_) (AllReadyH.cons (i := 12) (o := { dst := some 47, op := Go.Op.buildSlice 22 1 #[(0, Go.Operand.tmp 46)], type := 22, pos := "canon.go:21", after := #[{ on := 11, ground := Go.Ground.data }], guard := none }) rfl (fun K hK => ?_) AllReadyH.nil)
              · go_simp
                refine hK.out _ _ ?_ (fun hH4 => ?_)
                · exact hH3
                clear hK K
                try simp only [Act.put, List.setIfInBounds_toArray, List.set_cons_zero, List.set_cons_succ]
                refine wpAnyH_ready (rs := [12]) (by kernel_rfl) (by simp) ?_
                refine AllReadyH.cons (i := 12) (o := { dst := some 47, op := Go.Op.buildSlice 22 1 #[(0, Go.Operand.tmp 46)], type := 22, pos := "canon.go:21", after := #[{ on := 11, ground := Go.Ground.data }], guard := none }) rfl (fun K hK => ?_) AllReadyH.nil
                go_simp
                refine hK.out _ _ ?_ (fun hH5 => ?_)
                · exact ⟨cell_old hH4.1, cell_old hH4.2.1, cell_old hH4.2.2.1, cell_old hH4.2.2.2.1, cell_old hH4.2.2.2.2.1, cell_old hH4.2.2.2.2.2.1, cell_old hH4.2.2.2.2.2.2⟩
                clear hK K
                try simp only [Act.put, List.setIfInBounds_toArray, List.set_cons_zero, List.set_cons_succ]
                refine wpAnyH_ready (rs := [13]) (by kernel_rfl) (by simp) ?_
                refine AllReadyH.cons (i := 13) (o := { dst := some 48, op := Go.Op.call { callee := Go.Callee.builtin Go.Builtin.append, args := #[Go.Operand.tmp 36, Go.Operand.tmp 47], argTypes := #[22, 22] }, type := 22, pos := "canon.go:21", after := #[{ on := 1, ground := Go.Ground.data }, { on := 12, ground := Go.Ground.data }, { on := 11, ground := Go.Ground.chain }], guard := none }) rfl (fun K hK => ?_) AllReadyH.nil
                rw [if_pos (by rfl)]
                refine wp_app_run (.tmp 36) (.tmp 47) 22 rfl _ _ HRUN.out ?_
                refine hK.out _ _ ?_ (fun hH6 => ?_)
                · exact ⟨(HB6.out.cell (p := ⟨b, off + q * 6, none⟩) (by show b < _; omega)).trans hH5.1, (HB6.out.cell (p := ⟨b, off + q * 6 + 1, none⟩) (by show b < _; omega)).trans hH5.2.1, (HB6.out.cell (p := ⟨b, off + q * 6 + 2, none⟩) (by show b < _; omega)).trans hH5.2.2.1, (HB6.out.cell (p := ⟨b, off + q * 6 + 3, none⟩) (by show b < _; omega)).trans hH5.2.2.2.1, (HB6.out.cell (p := ⟨b, off + q * 6 + 4, none⟩) (by show b < _; omega)).trans hH5.2.2.2.2.1, (HB6.out.cell (p := ⟨b, off + q * 6 + 5, none⟩) (by show b < _; omega)).trans hH5.2.2.2.2.2.1, (HB6.out.cell (p := ⟨w.heap.size, 0, none⟩) (by show w.heap.size < _; omega)).trans hH5.2.2.2.2.2.2⟩
                clear hK K
                try simp only [Act.put, List.setIfInBounds_toArray, List.set_cons_zero, List.set_cons_succ]
                refine wpAnyH_take (i := 14) (oi := { dst := some 49, op := Go.Op.fieldAddr 24 (Go.Operand.tmp 10) 0, type := 0, pos := "canon.go:21", after := #[{ on := 0, ground := Go.Ground.phase }, { on := 1, ground := Go.Ground.phase }, { on := 2, ground := Go.Ground.phase }, { on := 3, ground := Go.Ground.phase }, { on := 4, ground := Go.Ground.phase }, { on := 5, ground := Go.Ground.phase }, { on := 6, ground := Go.Ground.phase }, { on := 7, ground := Go.Ground.phase }, { on := 8, ground := Go.Ground.phase }, { on := 9, ground := Go.Ground.phase }, { on := 10, ground := Go.Ground.phase }, { on := 11, ground := Go.Ground.phase }, { on := 12, ground := Go.Ground.phase }, { on := 13, ground := Go.Ground.phase }], guard := none }) (v := ?vv17) rfl (by kernel_rfl) (by kernel_rfl) (by kernel_rfl) (fun _ _ _ h => h) (Or.inl ⟨by rfl, ?hy17⟩) (by assumption) ?rr17
                case hy17 => intro w hSw; (try dsimp only at hSw); go_simp; all_goals with_reducible rfl
                try simp only [Act.put, List.setIfInBounds_toArray, List.set_cons_zero, List.set_cons_succ]
                refine wpAnyH_ready (rs := [15]) (by kernel_rfl) (by simp) ?_
                refine AllReadyH.cons (i := 15) (o := { dst := none, op := Go.Op.store 22 (Go.Operand.tmp 49) (Go.Operand.tmp 48), type := 0, pos := "canon.go:21", after := #[{ on := 14, ground := Go.Ground.data }, { on := 13, ground := Go.Ground.data }, { on := 13, ground := Go.Ground.chain }, { on := 0, ground := Go.Ground.phase }, { on := 1, ground := Go.Ground.phase }, { on := 2, ground := Go.Ground.phase }, { on := 3, ground := Go.Ground.phase }, { on := 4, ground := Go.Ground.phase }, { on := 5, ground := Go.Ground.phase }, { on := 6, ground := Go.Ground.phase }, { on := 7, ground := Go.Ground.phase }, { on := 8, ground := Go.Ground.phase }, { on := 9, ground := Go.Ground.phase }, { on := 10, ground := Go.Ground.phase }, { on := 11, ground := Go.Ground.phase }, { on := 12, ground := Go.Ground.phase }, { on := 13, ground := Go.Ground.phase }], guard := none }) rfl (fun K hK => ?_) AllReadyH.nil
                go_simp
                refine hK.out _ _ ?_ (fun hH7 => ?_)
                · exact ⟨far_cell (by omega) hH6.1, far_cell (by omega) hH6.2.1, far_cell (by omega) hH6.2.2.1, far_cell (by omega) hH6.2.2.2.1, far_cell (by omega) hH6.2.2.2.2.1, far_cell (by omega) hH6.2.2.2.2.2.1, far_cell (by omega) hH6.2.2.2.2.2.2⟩
                clear hK K
                try simp only [Act.put, List.setIfInBounds_toArray, List.set_cons_zero, List.set_cons_succ]
                refine wpAnyH_done (by kernel_rfl) ?_ _
                go_wp2_with fail
                go_roundw
                case rel =>
                  obtain ⟨t2, ht2⟩ := meets_pre h (edgesO o) M
                  have hml2 : M.length ≤ (meets h M (edgesO o)).length := by rw [ht2, List.length_append]; omega
                  exact ⟨k + 1, meets h M (edgesO o), A8, A7, c8, c7, ls ++ [⟨cnO h (meets h M (edgesO o)) o, S3, d3⟩], by omega, by go_num, HC4.out.1, by rw [List.map_append, HLS.out, HKS.out]; rfl, HGS.out, HDS.out⟩
                case measure => simp [intOf]; omega
              · go_simp
                refine hK.out _ _ ?_ (fun hH4 => ?_)
                · exact ⟨cell_old hH3.1, cell_old hH3.2.1, cell_old hH3.2.2.1, cell_old hH3.2.2.2.1, cell_old hH3.2.2.2.2.1, cell_old hH3.2.2.2.2.2.1, cell_old hH3.2.2.2.2.2.2⟩
                clear hK K
                try simp only [Act.put, List.setIfInBounds_toArray, List.set_cons_zero, List.set_cons_succ]
                refine wpAnyH_ready (rs := [1]) (by kernel_rfl) (by simp) ?_
                refine AllReadyH.cons (i := 1) (o := { dst := some 36, op := Go.Op.load 22 (Go.Operand.tmp 35), type := 22, pos := "canon.go:21", after := #[{ on := 0, ground := Go.Ground.data }], guard := none }) rfl (fun K hK => ?_) AllReadyH.nil
                go_simp
                refine hK.out _ _ ?_ (fun hH5 => ?_)
                · exact hH4
                clear hK K
                try simp only [Act.put, List.setIfInBounds_toArray, List.set_cons_zero, List.set_cons_succ]
                refine wpAnyH_ready (rs := [13]) (by kernel_rfl) (by simp) ?_
                refine AllReadyH.cons (i := 13) (o := { dst := some 48, op := Go.Op.call { callee := Go.Callee.builtin Go.Builtin.append, args := #[Go.Operand.tmp 36, Go.Operand.tmp 47], argTypes := #[22, 22] }, type := 22, pos := "canon.go:21", after := #[{ on := 1, ground := Go.Ground.data }, { on := 12, ground := Go.Ground.data }, { on := 11, ground := Go.Ground.chain }], guard := none }) rfl (fun K hK => ?_) AllReadyH.nil
                rw [if_pos (by rfl)]
                refine wp_app_run (.tmp 36) (.tmp 47) 22 rfl _ _ HRUN.out ?_
                refine hK.out _ _ ?_ (fun hH6 => ?_)
                · exact ⟨(HB6.out.cell (p := ⟨b, off + q * 6, none⟩) (by show b < _; omega)).trans hH5.1, (HB6.out.cell (p := ⟨b, off + q * 6 + 1, none⟩) (by show b < _; omega)).trans hH5.2.1, (HB6.out.cell (p := ⟨b, off + q * 6 + 2, none⟩) (by show b < _; omega)).trans hH5.2.2.1, (HB6.out.cell (p := ⟨b, off + q * 6 + 3, none⟩) (by show b < _; omega)).trans hH5.2.2.2.1, (HB6.out.cell (p := ⟨b, off + q * 6 + 4, none⟩) (by show b < _; omega)).trans hH5.2.2.2.2.1, (HB6.out.cell (p := ⟨b, off + q * 6 + 5, none⟩) (by show b < _; omega)).trans hH5.2.2.2.2.2.1, (HB6.out.cell (p := ⟨w.heap.size, 0, none⟩) (by show w.heap.size < _; omega)).trans hH5.2.2.2.2.2.2⟩
                clear hK K
                try simp only [Act.put, List.setIfInBounds_toArray, List.set_cons_zero, List.set_cons_succ]
                refine wpAnyH_take (i := 14) (oi := { dst := some 49, op := Go.Op.fieldAddr 24 (Go.Operand.tmp 10) 0, type := 0, pos := "canon.go:21", after := #[{ on := 0, ground := Go.Ground.phase }, { on := 1, ground := Go.Ground.phase }, { on := 2, ground := Go.Ground.phase }, { on := 3, ground := Go.Ground.phase }, { on := 4, ground := Go.Ground.phase }, { on := 5, ground := Go.Ground.phase }, { on := 6, ground := Go.Ground.phase }, { on := 7, ground := Go.Ground.phase }, { on := 8, ground := Go.Ground.phase }, { on := 9, ground := Go.Ground.phase }, { on := 10, ground := Go.Ground.phase }, { on := 11, ground := Go.Ground.phase }, { on := 12, ground := Go.Ground.phase }, { on := 13, ground := Go.Ground.phase }], guard := none }) (v := ?vv18) rfl (by kernel_rfl) (by kernel_rfl) (by kernel_rfl) (fun _ _ _ h => h) (Or.inl ⟨by rfl, ?hy18⟩) (by assumption) ?rr18
                case hy18 => intro w hSw; (try dsimp only at hSw); go_simp; all_goals with_reducible rfl
                try simp only [Act.put, List.setIfInBounds_toArray, List.set_cons_zero, List.set_cons_succ]
                refine wpAnyH_ready (rs := [15]) (by kernel_rfl) (by simp) ?_
                refine AllReadyH.cons (i := 15) (o := { dst := none, op := Go.Op.store 22 (Go.Operand.tmp 49) (Go.Operand.tmp 48), type := 0, pos := "canon.go:21", after := #[{ on := 14, ground := Go.Ground.data }, { on := 13, ground := Go.Ground.data }, { on := 13, ground := Go.Ground.chain }, { on := 0, ground := Go.Ground.phase }, { on := 1, ground := Go.Ground.phase }, { on := 2, ground := Go.Ground.phase }, { on := 3, ground := Go.Ground.phase }, { on := 4, ground := Go.Ground.phase }, { on := 5, ground := Go.Ground.phase }, { on := 6, ground := Go.Ground.phase }, { on := 7, ground := Go.Ground.phase }, { on := 8, ground := Go.Ground.phase }, { on := 9, ground := Go.Ground.phase }, { on := 10, ground := Go.Ground.phase }, { on := 11, ground := Go.Ground.phase }, { on := 12, ground := Go.Ground.phase }, { on := 13, ground := Go.Ground.phase }], guard := none }) rfl (fun K hK => ?_) AllReadyH.nil
                go_simp
                refine hK.out _ _ ?_ (fun hH7 => ?_)
                · exact ⟨far_cell (by omega) hH6.1, far_cell (by omega) hH6.2.1, far_cell (by omega) hH6.2.2.1, far_cell (by omega) hH6.2.2.2.1, far_cell (by omega) hH6.2.2.2.2.1, far_cell (by omega) hH6.2.2.2.2.2.1, far_cell (by omega) hH6.2.2.2.2.2.2⟩
                clear hK K
                try simp only [Act.put, List.setIfInBounds_toArray, List.set_cons_zero, List.set_cons_succ]
                refine wpAnyH_done (by kernel_rfl) ?_ _
                go_wp2_with fail
                go_roundw
                case rel =>
                  obtain ⟨t2, ht2⟩ := meets_pre h (edgesO o) M
                  have hml2 : M.length ≤ (meets h M (edgesO o)).length := by rw [ht2, List.length_append]; omega
                  exact ⟨k + 1, meets h M (edgesO o), A8, A7, c8, c7, ls ++ [⟨cnO h (meets h M (edgesO o)) o, S3, d3⟩], by omega, by go_num, HC4.out.1, by rw [List.map_append, HLS.out, HKS.out]; rfl, HGS.out, HDS.out⟩
                case measure => simp [intOf]; omega
      · obtain rfl : k = M.length := by omega
        have hM : M = ordN h rs := HGO.out.done (Nat.le_refl _)
        have hobj : ls.map (·.o) = (cnH h rs).objs := by rw [HLS.out, hM, cnK_all HE.out]
        obtain ⟨hcp, hla⟩ := cn_caps HE.out
        have hll2 : ls.length = (cnH h rs).objs.length := by rw [← hobj, List.length_map]
        have HK2 := hid (K2.out.below HBO.out (by omega))
        have HBZ := hid (HB2.out.trans (HBO.out.mono (by omega)))
        have ap2 := HS2.out.apart HO2.out (by decide)
        have HOL := hid (HCW.out.turns.row HO2.out ap2.1 ap2.2 (off_blk HF2.out))
        have HOB := hid hobj
        have HL2 := hid hll2
        have HCP := hid hcp
        have HLA := hid hla
        have z0 := HCW.out.box.cell 0
        have z1 := HCW.out.box.cell 1
        have z2 := HCW.out.box.cell 2
        have u0 := HK2.out.cell 0
        have u1 := HK2.out.cell 1
        have u2 := HK2.out.cell 2
        have uf0 := HK2.out.frozen 0
        have uf1 := HK2.out.frozen 1
        have uf2 := HK2.out.frozen 2
        simp only [List.getElem?_toArray, List.getElem?_cons_zero, List.getElem?_cons_succ] at z0 z1 z2 u0 u1 u2
        clear hobj hcp hla hll2 ap2 hM
        go_wp2_with fail
        have KF := (((HK2.out.set_ 0 (.slice A5 ls.length c5)).set_ 1 (.int .i64 h.cap)).set_ 2 (.int .i64 h.last))
        have r0 := KF.cell 0
        have r1 := KF.cell 1
        have r2 := KF.cell 2
        simp only [List.setIfInBounds_toArray, List.set_cons_zero, List.set_cons_succ, List.getElem?_toArray, List.getElem?_cons_zero, List.getElem?_cons_succ] at r0 r1 r2
        refine bodyPost_ret (v := .tuple #[.agg #[.slice A5 ls.length c5, .int .i64 h.cap, .int .i64 h.last], .slice S2 L.length d2, .int .i64 0]) (by simp [results, Tryz.results64, go_sem, r0, r1, r2]) rfl ?_
        rw [← HLL.out]
        refine ⟨A5, c5, S2, d2, ls, by rw [HCP.out, HLA.out, ← HL2.out], HOB.out, OwnH.lower (base := w2.heap.size + 1) ?_ (by omega), own_lower (base := w1.heap.size) ?_ (by omega), ?_⟩
        · exact ((HCW.out.own.low (p := ⟨w.heap.size + 1, 0, none⟩) (by show w.heap.size + 1 < _; omega) _).low (p := ⟨w.heap.size + 1, 1, none⟩) (by show w.heap.size + 1 < _; omega) _).low (p := ⟨w.heap.size + 1, 2, none⟩) (by show w.heap.size + 1 < _; omega) _
        · exact ownsRow_setCell_below (ownsRow_setCell_below (ownsRow_setCell_below HOL.out hw01 _) hw01 _) hw01 _
        · exact (((HBZ.out.setCell (p := ⟨w.heap.size + 1, 0, none⟩) (by simp) _).setCell (p := ⟨w.heap.size + 1, 1, none⟩) (by simp) _).setCell (p := ⟨w.heap.size + 1, 2, none⟩) (by simp) _)
  · have e1 : cnH h rs = zeroH := cnH_no he
    have e2 : cnL h rs = [] := cnL_no he
    have hne : (liE h rs != 0) = true := by simpa using he
    rw [e1, e2]
    obtain ⟨en, hen⟩ : ∃ en, en = liE h rs := ⟨_, rfl⟩
    rw [← hen] at hne ⊢
    have HEN := hid hen
    clear e1 e2 hen he
    go_enter Tryz.func64, Tryz.ntmps64
    go_wp2_with fail
    refine (fault_any h rs A R c d _ (HS.out.below HB0.out) HF.out (HR.out.below HB0.out) (by omega)).mono ?_
    rintro e w1 ⟨rfl, hb1⟩
    rw [← HEN.out]
    have HB1 := hid (HB0.out.trans (hb1.mono HB0.out.size))
    have K1 := hid (K0.out.later hb1)
    clear hb1
    have u0 := K1.out.cell 0
    have u1 := K1.out.cell 1
    have u2 := K1.out.cell 2
    have uf0 := K1.out.frozen 0
    have uf1 := K1.out.frozen 1
    have uf2 := K1.out.frozen 2
    simp only [List.getElem?_toArray, List.getElem?_cons_zero, List.getElem?_cons_succ] at u0 u1 u2
    go_wp2_with fail
    have KF := (((K1.out.set_ 0 (.slice none 0 0)).set_ 1 (.int .i64 0)).set_ 2 (.int .i64 0))
    have r0 := KF.cell 0
    have r1 := KF.cell 1
    have r2 := KF.cell 2
    simp only [List.setIfInBounds_toArray, List.set_cons_zero, List.set_cons_succ, List.getElem?_toArray, List.getElem?_cons_zero, List.getElem?_cons_succ] at r0 r1 r2
    refine bodyPost_ret (v := .tuple #[.agg #[.slice none 0 0, .int .i64 0, .int .i64 0], .slice none 0 0, .int .i64 en]) (by simp [results, Tryz.results64, go_sem, r0, r1, r2]) rfl ?_
    exact ⟨none, 0, none, 0, [], rfl, rfl, OwnH.nil _ _, World.ownsRow_nil _ _ _ _, (((HB1.out.setCell (p := ⟨w.heap.size + 1, 0, none⟩) (by simp) _).setCell (p := ⟨w.heap.size + 1, 1, none⟩) (by simp) _).setCell (p := ⟨w.heap.size + 1, 2, none⟩) (by simp) _)⟩
theorem of_any (h : Hp) (rs : List Int) (A R : Option Addr) (c d : Nat) (w : World) (hs : ObsR w A h.objs) (fit : h.Fit) (hr : IntsR w R rs) (hl : rs.length ≤ 100000) :
    Calls Tryz.prog 64 #[.agg #[.slice A h.objs.length c, .int .i64 h.cap, .int .i64 h.last], .slice R rs.length d] w (HeapInts w (cnH h rs) (cnL h rs) (liE h rs)) :=
  (of_own h rs A R c d w hs fit hr hl).mono fun _ _ ⟨A', c', R', d', _, he, hls, hob, hrow, hb⟩ => ⟨A', c', R', d', he, own_obs hob hls, own_ints hrow, hb⟩
end Go.Proofs.YtnilempeldlieaaGreat
