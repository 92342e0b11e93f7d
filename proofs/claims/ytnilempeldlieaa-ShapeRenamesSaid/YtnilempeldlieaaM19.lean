/- Is a list a permutation? walked. The document's met, turned and Values walked. -/
import Derived.Test.YtnilempeldlieaaWPL
import Derived.Test.YtnilempeldlieaaM09
namespace Go.Proofs.Ytnilempeldlieaa
open Go.RowKit
set_option maxRecDepth 100000
theorem place6_any (L : List Int) (x : Int) (A : Option Addr) (c : Nat) (w : World) (hs : IntsR w A L) (hl : L.length ≤ 9223372036854775807) :
    Calls Try.prog 25 #[.slice A L.length c, .int .i64 x] w fun e w' => e = .returned (.int .i64 (plZ L x)) ∧ w = w' := by
  have HS := hid hs
  clear hs
  go_enter Try.func25, Try.ntmps25
  go_wp2
  go_loopw [5] (fun i wr => ∃ k : Nat, k ≤ L.length ∧ i = .int .i64 k ∧ x ∉ L.take k ∧ w = wr) (fun i _ => L.length - (intOf i).toNat)
  case atStart => exact ⟨0, Nat.zero_le _, rfl, by simp, rfl⟩
  case round =>
    obtain ⟨k, hk, rfl, hno, rfl⟩ := hrel
    have HN := hid hno
    clear hno
    by_cases hlt : k < L.length
    · obtain ⟨bs, os, rfl, hbs, hcs⟩ := HS.out (by omega)
      have hcell : w.cell? ⟨bs, os + k, none⟩ = some (.int .i64 L[k]) := hcs k _ (List.getElem?_eq_getElem hlt)
      clear hcs
      by_cases he : L[k] = x
      · have hcx : Hid (plZ L x = k) := plZ_at hlt HN.out he
        rw [he] at hcell
        go_wp2
        go_ret
        exact ⟨by rw [hcx.out]; rfl, rfl⟩
      · have hne : (L[k] == x) = false := by simpa using he
        have HNX : Hid (x ∉ L.take (k + 1)) := by
          show ¬ _
          rw [List.take_succ_eq_append_getElem hlt]
          simp only [List.mem_append, List.mem_singleton, not_or]
          exact ⟨HN.out, fun e => he e.symm⟩
        go_wp2
        go_roundw
        case rel => exact ⟨k + 1, by omega, by go_num, HNX.out, by first | rfl | trivial⟩
        case measure => simp [intOf]; omega
    · have hkn : k = L.length := by omega
      have hcx : Hid (plZ L x = -1) := by
        show _ = _
        have := HN.out
        rw [hkn, List.take_length] at this
        exact plZ_no this
      go_wp2
      go_ret
      exact ⟨by rw [hcx.out]; rfl, rfl⟩
theorem perm_any (L : List Int) (n : Nat) (A : Option Addr) (c : Nat) (w : World) (hs : IntsR w A L) (hl : L.length ≤ 9223372036854775807) (hn : n ≤ 9223372036854775806) :
    Calls Try.prog 11 #[.slice A L.length c, .int .i64 n] w fun e w' => e = .returned (.bool (pmB L n)) ∧ w = w' := by
  have HS := hid hs
  clear hs
  go_enter Try.func11, Try.ntmps11
  go_wp2
  go_loopw [5] (fun i wr => ∃ k : Nat, k ≤ n ∧ i = .int .i64 k ∧ (∀ j : Nat, j < k → (j : Int) ∈ L) ∧ w = wr) (fun i _ => n - (intOf i).toNat)
  case atStart => exact ⟨0, Nat.zero_le _, rfl, fun j hj => absurd hj (Nat.not_lt_zero j), rfl⟩
  case round =>
    obtain ⟨k, hk, rfl, hall, rfl⟩ := hrel
    have HALL := hid hall
    clear hall
    by_cases hlt : k < n
    · by_cases hm : (k : Int) ∈ L
      · have hp : ¬ plZ L k < 0 := fun g => pl_in.1 g hm
        obtain ⟨p, hpp⟩ : ∃ p, p = plZ L k := ⟨_, rfl⟩
        have HPP := hid hpp
        rw [← hpp] at hp
        have hp0 : 0 ≤ p := by omega
        have HALL1 : Hid (∀ j : Nat, j < k + 1 → (j : Int) ∈ L) := fun j hj => by
          by_cases g : j < k
          · exact HALL.out j g
          · obtain rfl : j = k := by omega
            exact hm
        clear hpp hm hp
        go_wp2_with fail
        refine (place6_any L k A c w HS.out hl).mono ?_
        rintro e w' ⟨rfl, rfl⟩
        rw [← HPP.out]
        go_wp2_with fail
        go_roundw
        case rel => exact ⟨k + 1, by omega, by go_num, HALL1.out, by first | rfl | trivial⟩
        case measure => simp [intOf]; omega
      · have hp : plZ L k = -1 := plZ_no hm
        have HP := hid hp
        have hf : Hid (pmB L n = false) := by
          show _ = _
          cases h : pmB L n
          · rfl
          · exact absurd ((pmB_iff.1 h).2 k hlt) hm
        clear hm hp
        go_wp2_with fail
        refine (place6_any L k A c w HS.out hl).mono ?_
        rintro e w' ⟨rfl, rfl⟩
        rw [HP.out]
        go_wp2_with fail
        go_ret
        exact ⟨by rw [hf.out]; rfl, rfl⟩
    · obtain rfl : k = n := by omega
      have hf : Hid (pmB L k = ((L.length : Int) == (k : Int))) := by
        show _ = _
        have h2 : (((L.length : Int)) == (k : Int)) = decide (L.length = k) := by
          by_cases g : L.length = k
          · simp [g]
          · have : ¬ (L.length : Int) = k := by omega
            simp [g, this]
        rw [h2]
        unfold pmB
        have : ((List.range k).all fun i => decide ((i : Int) ∈ L)) = true := List.all_eq_true.2 fun i hi => decide_eq_true (HALL.out i (List.mem_range.1 hi))
        rw [this, Bool.and_true]
      go_wp2_with fail
      go_ret
      exact ⟨by rw [hf.out]; rfl, rfl⟩
end Go.Proofs.Ytnilempeldlieaa
namespace Go.Proofs.Ytnilempeldlieaa
open Go.RowKit
set_option maxRecDepth 100000
theorem refI_m1 {n : Nat} {v : Int} (h : refB n v = false) : refI n v = -1 := by unfold refI; rw [if_neg (by rw [h]; decide)]
/-- numbers met so far -/
def metK (h : Hp) (L : List Nat) (vs : List Int) (k : Nat) : List Int := iL (meets h L (vs.take k))
theorem metK_all (h : Hp) (L : List Nat) (vs : List Int) : metK h L vs vs.length = iL (meets h L vs) := by unfold metK; rw [List.take_length]
theorem metK_zero (h : Hp) (L : List Nat) (vs : List Int) : metK h L vs 0 = iL L := rfl
theorem metK_len {h : Hp} {L : List Nat} (ok : Okay h L) (vs : List Int) (k : Nat) : (metK h L vs k).length ≤ h.objs.length := by unfold metK; rw [cast_len]; exact (ok.meets _).len
theorem metK_old {h : Hp} {L : List Nat} {vs : List Int} {k : Nat} (hk : k < vs.length) (hm : refB h.objs.length vs[k] = true → ¬ plZ (metK h L vs k) (atV vs[k]) < 0) : metK h L vs (k + 1) = metK h L vs k := by
  unfold metK at hm ⊢
  rw [meets_take hk, meetL_old fun hr => ?_]
  have := hm hr
  rw [pl_new hr] at this
  exact Classical.not_not.1 this
theorem metK_new {h : Hp} {L : List Nat} {vs : List Int} {k : Nat} (hk : k < vs.length) (hr : refB h.objs.length vs[k] = true) (hm : plZ (metK h L vs k) (atV vs[k]) < 0) : metK h L vs (k + 1) = metK h L vs k ++ [atV vs[k]] := by
  unfold metK at hm ⊢
  rw [meets_take hk, meetL_new hr ((pl_new hr).1 hm)]
set_option maxHeartbeats 1500000 in
theorem values_ref_any (h : Hp) (L : List Int) (vs : List Int) (A B D : Option Addr) (c b d : Nat) (w : World) (hl : IntsR w B L) (hv : IntsR w D vs) (hlen : L.length = h.objs.length) (hpm : ∀ x ∈ L, 0 ≤ x ∧ x ≤ 256) (hvl : vs.length ≤ 100000) :
    Calls Try.prog 42 #[.agg #[.slice A h.objs.length c, .int .i64 h.cap, .int .i64 h.last], .slice B L.length b, .slice D vs.length d] w (IntsOwn w (vs.map (rnV h.objs.length L))) := by
  have HB0 := hid (below_alloc w (.cells #[Value.slice A h.objs.length c, Value.int .i64 h.cap, Value.int .i64 h.last] 24))
  have X0 := hid (Lies.new w 24 #[Value.slice A h.objs.length c, Value.int .i64 h.cap, Value.int .i64 h.last])
  have HL := hid hl
  have HV := hid hv
  have HLE : Hid (∀ k, k ≤ vs.length → (takeG (rnV h.objs.length L) vs k).length ≤ k) := fun k _ => by unfold takeG; rw [List.length_map, List.length_take]; omega
  have HALL := hid (takeG_all (rnV h.objs.length L) vs)
  have hlen1 := Nat.le_of_eq hlen
  have hlen2 := Nat.le_of_eq hlen.symm
  clear hlen
  clear hl hv
  have EE : Hid (((w.alloc (.cells #[Value.slice A h.objs.length c, Value.int .i64 h.cap, Value.int .i64 h.last] 24)).alloc (.cells #[] 3)).ownsRow (w.heap.size + 1) 3 1 (.slice (some ⟨w.heap.size + 1, 0, none⟩) 0 0) 0 (([] : List Int).map (Value.int .i64))) := by
    have := own_empty (w.alloc (.cells #[Value.slice A h.objs.length c, Value.int .i64 h.cap, Value.int .i64 h.last] 24))
    simpa [Hid] using this
  have EB := hid (below_alloc (w.alloc (.cells #[Value.slice A h.objs.length c, Value.int .i64 h.cap, Value.int .i64 h.last] 24)) (.cells #[] 3))
  have XE := hid (X0.out.later EB.out)
  have HBE := hid (then_b HB0.out EB.out)
  go_enter Try.func42, Try.ntmps42
  go_wp2_with fail
  go_loopw [8, 7] (fun i s wr => ∃ (k : Nat) (A3 : Option Addr) (c3 : Nat), k ≤ vs.length ∧ i = .int .i64 k ∧ s = .slice A3 (takeG (rnV h.objs.length L) vs k).length c3 ∧ wr.ownsRow (w.heap.size + 1) 3 1 (.slice A3 (takeG (rnV h.objs.length L) vs k).length c3) (takeG (rnV h.objs.length L) vs k).length ((takeG (rnV h.objs.length L) vs k).map (Value.int .i64)) ∧ Lies wr w.heap.size 24 #[Value.slice A h.objs.length c, Value.int .i64 h.cap, Value.int .i64 h.last] ∧ Below w.heap.size w wr) (fun i _ _ => vs.length - (intOf i).toNat)
  case atStart => exact ⟨0, _, _, Nat.zero_le _, rfl, rfl, EE.out, XE.out, HBE.out⟩
  case round =>
    obtain ⟨k, A3, c3, hk, rfl, rfl, hown, hbox, hbw⟩ := hrel
    rename World => wo
    have HW := hid hbw
    have HO := hid hown
    have HX := hid hbox
    have x0 := hbox.cell 0
    have x1 := hbox.cell 1
    have x2 := hbox.cell 2
    simp only [List.getElem?_toArray, List.getElem?_cons_zero, List.getElem?_cons_succ] at x0 x1 x2
    clear hown hbw hbox
    have hpl := HLE.out k hk
    by_cases hlt : k < vs.length
    · obtain ⟨bs, os, rfl, hbs, hcs⟩ := HV.out (by omega)
      have rc := (HW.out.cell (p := ⟨bs, os + k, none⟩) hbs).trans (hcs k _ (List.getElem?_eq_getElem hlt))
      obtain ⟨v, hv⟩ : ∃ v, v = vs[k] := ⟨_, rfl⟩
      rw [← hv] at rc
      clear hcs
      have htm := takeG_map (rnV h.objs.length L) vs k hlt
      rw [← hv] at htm
      clear hv
      cases hr : refB h.objs.length v
      · have rv : refI h.objs.length v = -1 := refI_m1 hr
        have htv : rnV h.objs.length L v = v := by unfold rnV; rw [if_neg (by rw [hr]; decide)]
        rw [htv] at htm
        have HRS := hid htm
        clear htm htv
        go_wp2_with fail
        refine wp_region_held_drew (S := (fun w' => w'.cell? ⟨w.heap.size, 0, none⟩ = some (.slice A h.objs.length c) ∧ w'.cell? ⟨w.heap.size, 1, none⟩ = some (.int .i64 h.cap) ∧ w'.cell? ⟨w.heap.size, 2, none⟩ = some (.int .i64 h.last) ∧ w'.cell? ⟨bs, os + k, none⟩ = some (.int .i64 v) ∧ Below w.heap.size w w')) (by kernel_rfl) ?_ (fun hHeld => ?_)
        · exact ⟨x0, x1, x2, rc, HW.out.drew⟩
        refine wpAnyH_take (i := 0) (oi := { dst := some 17, op := Go.Op.load 24 (Go.Operand.tmp 3), type := 24, pos := "ref.go:157", after := #[], guard := none }) (v := ?vv31) rfl (by kernel_rfl) (by kernel_rfl) (by kernel_rfl) (fun _ _ _ h => h) (Or.inl ⟨by rfl, ?hy31⟩) (by assumption) ?rr31
        case hy31 => intro w hSw; (try dsimp only at hSw); go_simp; all_goals with_reducible rfl
        try simp only [Act.put, List.setIfInBounds_toArray, List.set_cons_zero, List.set_cons_succ]
        refine wpAnyH_take (i := 1) (oi := { dst := some 18, op := Go.Op.move (Go.Operand.tmp 2), type := 31, pos := "ref.go:157", after := #[], guard := none }) (v := ?vv32) rfl (by kernel_rfl) (by kernel_rfl) (by kernel_rfl) (fun _ _ _ h => h) (Or.inl ⟨by rfl, ?hy32⟩) (by assumption) ?rr32
        case hy32 => intro w hSw; (try dsimp only at hSw); go_simp; all_goals with_reducible rfl
        try simp only [Act.put, List.setIfInBounds_toArray, List.set_cons_zero, List.set_cons_succ]
        refine wpAnyH_take (i := 2) (oi := { dst := some 19, op := Go.Op.move (Go.Operand.tmp 8), type := 3, pos := "ref.go:157", after := #[], guard := none }) (v := ?vv33) rfl (by kernel_rfl) (by kernel_rfl) (by kernel_rfl) (fun _ _ _ h => h) (Or.inl ⟨by rfl, ?hy33⟩) (by assumption) ?rr33
        case hy33 => intro w hSw; (try dsimp only at hSw); go_simp; all_goals with_reducible rfl
        try simp only [Act.put, List.setIfInBounds_toArray, List.set_cons_zero, List.set_cons_succ]
        refine wpAnyH_take (i := 3) (oi := { dst := some 20, op := Go.Op.indexAddr 31 (Go.Operand.tmp 18) (Go.Operand.tmp 19), type := 0, pos := "ref.go:157", after := #[{ on := 1, ground := Go.Ground.data }, { on := 2, ground := Go.Ground.data }], guard := none }) (v := ?vv34) rfl (by kernel_rfl) (by kernel_rfl) (by kernel_rfl) (fun _ _ _ h => h) (Or.inl ⟨by rfl, ?hy34⟩) (by assumption) ?rr34
        case hy34 => intro w hSw; (try dsimp only at hSw); go_simp; all_goals with_reducible rfl
        try simp only [Act.put, List.setIfInBounds_toArray, List.set_cons_zero, List.set_cons_succ]
        refine wpAnyH_take (i := 4) (oi := { dst := some 21, op := Go.Op.load 3 (Go.Operand.tmp 20), type := 3, pos := "ref.go:157", after := #[{ on := 3, ground := Go.Ground.data }], guard := none }) (v := ?vv35) rfl (by kernel_rfl) (by kernel_rfl) (by kernel_rfl) (fun _ _ _ h => h) (Or.inl ⟨by rfl, ?hy35⟩) (by assumption) ?rr35
        case hy35 => intro w hSw; (try dsimp only at hSw); go_simp; all_goals with_reducible rfl
        try simp only [Act.put, List.setIfInBounds_toArray, List.set_cons_zero, List.set_cons_succ]
        refine wpAnyH_ready (rs := [5]) (by kernel_rfl) (by simp) ?_
        refine AllReadyH.cons (i := 5) (o := { dst := some 22, op := Go.Op.call { callee := Go.Callee.value (Go.Operand.func 24), args := #[Go.Operand.tmp 17, Go.Operand.tmp 21], argTypes := #[24, 3] }, type := 3, pos := "ref.go:157", after := #[{ on := 0, ground := Go.Ground.data }, { on := 4, ground := Go.Ground.data }], guard := none }) rfl (fun K hK => ?_) AllReadyH.nil
        go_simp
        go_at_call 24
        refine (rref_any h v A c _).mono ?_
        rintro e w' ⟨rfl, hb⟩
        rw [rv]
        have HBr := hid hb
        refine hK.out _ _ ?_ (fun hHeld => ?_)
        · exact ⟨cell_later hb x0, cell_later hb x1, cell_later hb x2, cell_later hb rc, then_b HW.out.drew hb⟩
        clear hK K
        try simp only [Act.put, List.setIfInBounds_toArray, List.set_cons_zero, List.set_cons_succ]
        have hH1 := hHeld
        clear hHeld hb
        have hHeld := hH1
        refine wpAnyH_take (i := 6) (oi := { dst := some 9, op := Go.Op.assign (Go.Operand.tmp 22), type := 3, pos := "ref.go:157", after := #[{ on := 5, ground := Go.Ground.data }, { on := 5, ground := Go.Ground.chain }, { on := 0, ground := Go.Ground.phase }, { on := 1, ground := Go.Ground.phase }, { on := 2, ground := Go.Ground.phase }, { on := 3, ground := Go.Ground.phase }, { on := 4, ground := Go.Ground.phase }, { on := 5, ground := Go.Ground.phase }], guard := none }) (v := ?vv36) rfl (by kernel_rfl) (by kernel_rfl) (by kernel_rfl) (fun _ _ _ h => h) (Or.inl ⟨by rfl, ?hy36⟩) (by assumption) ?rr36
        case hy36 => intro w hSw; (try dsimp only at hSw); go_simp; all_goals with_reducible rfl
        try simp only [Act.put, List.setIfInBounds_toArray, List.set_cons_zero, List.set_cons_succ]
        refine wpAnyH_done (by kernel_rfl) ?_ _
        have hHeldB := hHeld.2.2.2.2
        have rc2 := hHeld.2.2.2.1
        have HW2 := hid hHeldB
        have HX2 := hid (HX.out.later (then_b (Below.refl _ wo).drew HBr.out))
        have HO2 := hid (own_later HO.out.drew HBr.out)
        clear hHeld hH1 hHeldB HBr x0 x1 x2 rc
        rename World => w2
        have rc3 := cell_old (ob := .cells #[.int .i64 v] 3) rc2
        have hz := HW2.out.size
        have HAL := hid (below_alloc w2 (.cells #[.int .i64 v] 3))
        have HO3 := hid (own_later HO2.out HAL.out)
        have HN := hid (Lies.new w2 3 #[.int .i64 v])
        have hzx := HX2.out.lt
        have hz2 : w.heap.size + 1 ≤ (w2.alloc (.cells #[.int .i64 v] 3)).heap.size := by simp; omega
        go_wp2_with (at_builtin; refine wpList_append_one rfl (.tmp 25) (.tmp 30) rfl (w.heap.size + 1) _ _ _ rfl HO3.out _ _ rfl HN.out (by omega) hz2 ?_)
        intro v' w' h1 h2
        obtain ⟨A4, c4, rfl⟩ := own_form h1
        have hps := congrArg List.length HRS.out
        rw [List.length_append, List.length_singleton] at hps
        have h1 : w'.ownsRow (w.heap.size + 1) 3 1 (.slice A4 (takeG (rnV h.objs.length L) vs (k + 1)).length c4) (takeG (rnV h.objs.length L) vs (k + 1)).length ((takeG (rnV h.objs.length L) vs (k + 1)).map (Value.int .i64)) := by rw [hps, HRS.out, List.map_append]; exact h1
        have hb2 := HW2.out.trans ((HAL.out.mono hz).grown h2 (by simp; omega) (fun q hq => by have := (HO3.out.lt q hq).1; omega))
        have hx4 := (HX2.out.later HAL.out).grown h2 (fun e => own_blk_ne HO3.out (HX2.out.later HAL.out) (by decide) e.symm)
        have H1 := hid h1
        have HB2 := hid hb2
        have HX4 := hid hx4
        have HPL := hid hps
        clear h1 h2 hb2 hps hx4
        go_wp2_with fail
        go_roundw
        case rel => exact ⟨k + 1, A4, c4, by omega, by go_num, by rw [HPL.out], H1.out, HX4.out, HB2.out⟩
        case measure => simp [intOf]; omega
      · have rv : refI h.objs.length v = atV v := refI_nonneg hr
        obtain ⟨hqn, hqa⟩ := refB_nat hr
        obtain ⟨q, hq⟩ : ∃ q, q = (atV v).toNat := ⟨_, rfl⟩
        have hq0 : q < L.length := by omega
        rw [← hqa, ← hq] at rv
        obtain ⟨bl, ol, rfl, hbl, hcl⟩ := HL.out (by omega)
        obtain ⟨p, hp⟩ : ∃ p, p = L[q] := ⟨_, rfl⟩
        have hpr := hpm _ (List.getElem_mem hq0)
        have htv : rnV h.objs.length L v = 2 * p := by unfold rnV; rw [if_pos hr, ← hq, List.getD_eq_getElem?_getD, List.getElem?_eq_getElem hq0, hp]; rfl
        have pc := hcl q _ (List.getElem?_eq_getElem hq0)
        rw [← hp] at hpr pc
        obtain ⟨hp1, hp2⟩ := hpr
        rw [htv] at htm
        have HPC := hid pc
        have HBL := hid hbl
        clear hp hq hqn hqa hcl pc hbl
        have HRS := hid htm
        clear htm htv
        go_wp2_with fail
        refine wp_region_held_drew (S := (fun w' => w'.cell? ⟨w.heap.size, 0, none⟩ = some (.slice A h.objs.length c) ∧ w'.cell? ⟨w.heap.size, 1, none⟩ = some (.int .i64 h.cap) ∧ w'.cell? ⟨w.heap.size, 2, none⟩ = some (.int .i64 h.last) ∧ w'.cell? ⟨bs, os + k, none⟩ = some (.int .i64 v) ∧ Below w.heap.size w w')) (by kernel_rfl) ?_ (fun hHeld => ?_)
        · exact ⟨x0, x1, x2, rc, HW.out.drew⟩
        refine wpAnyH_take (i := 0) (oi := { dst := some 17, op := Go.Op.load 24 (Go.Operand.tmp 3), type := 24, pos := "ref.go:157", after := #[], guard := none }) (v := ?vv37) rfl (by kernel_rfl) (by kernel_rfl) (by kernel_rfl) (fun _ _ _ h => h) (Or.inl ⟨by rfl, ?hy37⟩) (by assumption) ?rr37
        case hy37 => intro w hSw; (try dsimp only at hSw); go_simp; all_goals with_reducible rfl
        try simp only [Act.put, List.setIfInBounds_toArray, List.set_cons_zero, List.set_cons_succ]
        refine wpAnyH_take (i := 1) (oi := { dst := some 18, op := Go.Op.move (Go.Operand.tmp 2), type := 31, pos := "ref.go:157", after := #[], guard := none }) (v := ?vv38) rfl (by kernel_rfl) (by kernel_rfl) (by kernel_rfl) (fun _ _ _ h => h) (Or.inl ⟨by rfl, ?hy38⟩) (by assumption) ?rr38
        case hy38 => intro w hSw; (try dsimp only at hSw); go_simp; all_goals with_reducible rfl
        try simp only [Act.put, List.setIfInBounds_toArray, List.set_cons_zero, List.set_cons_succ]
        refine wpAnyH_take (i := 2) (oi := { dst := some 19, op := Go.Op.move (Go.Operand.tmp 8), type := 3, pos := "ref.go:157", after := #[], guard := none }) (v := ?vv39) rfl (by kernel_rfl) (by kernel_rfl) (by kernel_rfl) (fun _ _ _ h => h) (Or.inl ⟨by rfl, ?hy39⟩) (by assumption) ?rr39
        case hy39 => intro w hSw; (try dsimp only at hSw); go_simp; all_goals with_reducible rfl
        try simp only [Act.put, List.setIfInBounds_toArray, List.set_cons_zero, List.set_cons_succ]
        refine wpAnyH_take (i := 3) (oi := { dst := some 20, op := Go.Op.indexAddr 31 (Go.Operand.tmp 18) (Go.Operand.tmp 19), type := 0, pos := "ref.go:157", after := #[{ on := 1, ground := Go.Ground.data }, { on := 2, ground := Go.Ground.data }], guard := none }) (v := ?vv40) rfl (by kernel_rfl) (by kernel_rfl) (by kernel_rfl) (fun _ _ _ h => h) (Or.inl ⟨by rfl, ?hy40⟩) (by assumption) ?rr40
        case hy40 => intro w hSw; (try dsimp only at hSw); go_simp; all_goals with_reducible rfl
        try simp only [Act.put, List.setIfInBounds_toArray, List.set_cons_zero, List.set_cons_succ]
        refine wpAnyH_take (i := 4) (oi := { dst := some 21, op := Go.Op.load 3 (Go.Operand.tmp 20), type := 3, pos := "ref.go:157", after := #[{ on := 3, ground := Go.Ground.data }], guard := none }) (v := ?vv41) rfl (by kernel_rfl) (by kernel_rfl) (by kernel_rfl) (fun _ _ _ h => h) (Or.inl ⟨by rfl, ?hy41⟩) (by assumption) ?rr41
        case hy41 => intro w hSw; (try dsimp only at hSw); go_simp; all_goals with_reducible rfl
        try simp only [Act.put, List.setIfInBounds_toArray, List.set_cons_zero, List.set_cons_succ]
        refine wpAnyH_ready (rs := [5]) (by kernel_rfl) (by simp) ?_
        refine AllReadyH.cons (i := 5) (o := { dst := some 22, op := Go.Op.call { callee := Go.Callee.value (Go.Operand.func 24), args := #[Go.Operand.tmp 17, Go.Operand.tmp 21], argTypes := #[24, 3] }, type := 3, pos := "ref.go:157", after := #[{ on := 0, ground := Go.Ground.data }, { on := 4, ground := Go.Ground.data }], guard := none }) rfl (fun K hK => ?_) AllReadyH.nil
        go_simp
        go_at_call 24
        refine (rref_any h v A c _).mono ?_
        rintro e w' ⟨rfl, hb⟩
        rw [rv]
        have HBr := hid hb
        refine hK.out _ _ ?_ (fun hHeld => ?_)
        · exact ⟨cell_later hb x0, cell_later hb x1, cell_later hb x2, cell_later hb rc, then_b HW.out.drew hb⟩
        clear hK K
        try simp only [Act.put, List.setIfInBounds_toArray, List.set_cons_zero, List.set_cons_succ]
        have hH1 := hHeld
        clear hHeld hb
        have hHeld := hH1
        refine wpAnyH_take (i := 6) (oi := { dst := some 9, op := Go.Op.assign (Go.Operand.tmp 22), type := 3, pos := "ref.go:157", after := #[{ on := 5, ground := Go.Ground.data }, { on := 5, ground := Go.Ground.chain }, { on := 0, ground := Go.Ground.phase }, { on := 1, ground := Go.Ground.phase }, { on := 2, ground := Go.Ground.phase }, { on := 3, ground := Go.Ground.phase }, { on := 4, ground := Go.Ground.phase }, { on := 5, ground := Go.Ground.phase }], guard := none }) (v := ?vv42) rfl (by kernel_rfl) (by kernel_rfl) (by kernel_rfl) (fun _ _ _ h => h) (Or.inl ⟨by rfl, ?hy42⟩) (by assumption) ?rr42
        case hy42 => intro w hSw; (try dsimp only at hSw); go_simp; all_goals with_reducible rfl
        try simp only [Act.put, List.setIfInBounds_toArray, List.set_cons_zero, List.set_cons_succ]
        refine wpAnyH_done (by kernel_rfl) ?_ _
        have hHeldB := hHeld.2.2.2.2
        have rc2 := hHeld.2.2.2.1
        have HW2 := hid hHeldB
        have HX2 := hid (HX.out.later (then_b (Below.refl _ wo).drew HBr.out))
        have HO2 := hid (own_later HO.out.drew HBr.out)
        clear hHeld hH1 hHeldB HBr x0 x1 x2 rc
        rename World => w2
        have pc2 := (HW2.out.cell (p := ⟨bl, ol + q, none⟩) HBL.out).trans HPC.out
        have hz := HW2.out.size
        have HAL := hid (below_alloc w2 (.cells #[.int .i64 (2 * p)] 3))
        have HO3 := hid (own_later HO2.out HAL.out)
        have HN := hid (Lies.new w2 3 #[.int .i64 (2 * p)])
        have hzx := HX2.out.lt
        have hz2 : w.heap.size + 1 ≤ (w2.alloc (.cells #[.int .i64 (2 * p)] 3)).heap.size := by simp; omega
        go_wp2_with (at_builtin; refine wpList_append_one rfl (.tmp 32) (.tmp 38) rfl (w.heap.size + 1) _ _ _ rfl HO3.out _ _ rfl HN.out (by omega) hz2 ?_)
        intro v' w' h1 h2
        obtain ⟨A4, c4, rfl⟩ := own_form h1
        have hps := congrArg List.length HRS.out
        rw [List.length_append, List.length_singleton] at hps
        have h1 : w'.ownsRow (w.heap.size + 1) 3 1 (.slice A4 (takeG (rnV h.objs.length L) vs (k + 1)).length c4) (takeG (rnV h.objs.length L) vs (k + 1)).length ((takeG (rnV h.objs.length L) vs (k + 1)).map (Value.int .i64)) := by rw [hps, HRS.out, List.map_append]; exact h1
        have hb2 := HW2.out.trans ((HAL.out.mono hz).grown h2 (by simp; omega) (fun q hq => by have := (HO3.out.lt q hq).1; omega))
        have hx4 := (HX2.out.later HAL.out).grown h2 (fun e => own_blk_ne HO3.out (HX2.out.later HAL.out) (by decide) e.symm)
        have H1 := hid h1
        have HB2 := hid hb2
        have HX4 := hid hx4
        have HPL := hid hps
        clear h1 h2 hb2 hps hx4
        go_wp2_with fail
        go_roundw
        case rel => exact ⟨k + 1, A4, c4, by omega, by go_num, by rw [HPL.out], H1.out, HX4.out, HB2.out⟩
        case measure => simp [intOf]; omega
    · obtain rfl : k = vs.length := by omega
      go_wp2_with fail
      go_ret
      have hO := HO.out
      rw [HALL.out] at hO
      exact ⟨A3, c3, by rw [HALL.out]; rfl, own_lower hO (by omega), HW.out⟩
end Go.Proofs.Ytnilempeldlieaa
