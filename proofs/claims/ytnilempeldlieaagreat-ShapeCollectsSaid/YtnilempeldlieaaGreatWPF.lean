/- (*Pairing).fits walked. -/
import Derived.Test.YtnilempeldlieaaGreatWPP
import Derived.Test.YtnilempeldlieaaGreatM04
namespace Go.Proofs.YtnilempeldlieaaGreat
open Go.RowKit
set_option maxRecDepth 100000
theorem two_old2 {w : World} {p : Addr} {v : Value} {o1 o2 : Obj} (h : w.cell? p = some v) : ((w.alloc o1).alloc o2).drew.cell? p = some v := cell_later (Below.refl _ _).drew (cell_old (cell_old h))
theorem text_inj2 {s t : ByteArray} (h : s.toList = t.toList) : s = t := by
  rw [ByteArray.toList_eq, ByteArray.toList_eq] at h
  have := Array.toList_inj.1 h
  cases s; cases t; simp_all
section
variable {a b : Hp} {s s1 : Pr}
theorem prF_at {i : Nat} (h : prF a b i s = some s1) : prF a b (i + 1) s = prO a b s1 i := by
  show (prF a b i s).bind _ = _
  rw [h]; rfl
theorem prF_none {i n : Nat} (h : prF a b (i + 1) s = none) (hn : i + 1 ≤ n) : prF a b n s = none := by
  induction n with
  | zero => omega
  | succ m ih =>
    by_cases g : m = i
    · rw [g]; exact h
    · show (prF a b m s).bind _ = _
      rw [ih (by omega)]; rfl
theorem prL_app : ∀ (vs ws : List Int) (s : Pr) (vs' ws' : List Int), vs.length = ws.length → prL a b s (vs ++ vs') (ws ++ ws') = (prL a b s vs ws).bind fun s' => prL a b s' vs' ws'
  | [], [], s, vs', ws', _ => by simp [prL]
  | [], _ :: _, _, _, _, h => by simp at h
  | _ :: _, [], _, _, _, h => by simp at h
  | v :: vs, w :: ws, s, vs', ws', h => by
    show (prV a b s v w).bind _ = ((prV a b s v w).bind _).bind _
    cases prV a b s v w with
    | none => rfl
    | some r => exact prL_app vs ws r vs' ws' (by simpa using h)
theorem prL_take {vs ws : List Int} {j : Nat} (hl : vs.length = ws.length) (hj : j < vs.length) : prL a b s (vs.take (j + 1)) (ws.take (j + 1)) = (prL a b s (vs.take j) (ws.take j)).bind fun s' => prV a b s' vs[j] (ws[j]'(by omega)) := by
  rw [List.take_succ_eq_append_getElem hj, List.take_succ_eq_append_getElem (by omega : j < ws.length), prL_app _ _ _ _ _ (by rw [List.length_take, List.length_take]; omega)]
  congr 1
  funext s'
  show (prV a b s' vs[j] ws[j]).bind _ = _
  cases prV a b s' vs[j] ws[j] <;> rfl
theorem prL_none {vs ws : List Int} {j : Nat} (hl : vs.length = ws.length) (h : prL a b s (vs.take j) (ws.take j) = none) : prL a b s vs ws = none := by
  have := prL_app (a := a) (b := b) (vs.take j) (ws.take j) s (vs.drop j) (ws.drop j) (by rw [List.length_take, List.length_take, hl])
  rw [List.take_append_drop, List.take_append_drop, h] at this
  exact this
theorem prO_skip {i : Nat} (h : s.T i < 0) : prO a b s i = some s := by unfold prO; rw [if_pos h]
theorem prO_no {i k : Nat} {x y : Ob} (h : 0 ≤ s.T i) (hx : a.objs[i]? = some x) (hy : b.objs[k]? = some y) (hk : s.T i = k) (hn : ¬ alike x y) : prO a b s i = none := by
  unfold prO
  have hk2 : (s.T i).toNat = k := by omega
  rw [if_neg (by omega), hk2, List.getD_eq_getElem?_getD, List.getD_eq_getElem?_getD, hx, hy, if_neg (by exact hn)]
theorem prO_yes {i k : Nat} {x y : Ob} (h : 0 ≤ s.T i) (hx : a.objs[i]? = some x) (hy : b.objs[k]? = some y) (hk : s.T i = k) (hn : alike x y) : prO a b s i = (prV a b s x.cls y.cls).bind fun s' => prL a b s' x.slots y.slots := by
  unfold prO
  have hk2 : (s.T i).toNat = k := by omega
  rw [if_neg (by omega), hk2, List.getD_eq_getElem?_getD, List.getD_eq_getElem?_getD, hx, hy, if_pos (by exact hn)]
  rfl
end
set_option maxHeartbeats 3000000 in
theorem fits_any (a b : Hp) (s : Pr) (base pb : Nat) (T F A B : Option Addr) (ct cf c d : Nat) (w0 w : World) (hb0 : Below w0.heap.size w0 w) (hbase : w0.heap.size ≤ base) (hsa : ObsR w0 A a.objs) (hsb : ObsR w0 B b.objs) (hma : mayB a = true) (hmb : mayB b = true) (h : PrW w base pb T F ct cf s) (G : Good a b s) :
    Calls Tryz.prog 63 #[.pointer (some ⟨pb, 0, none⟩), .agg #[.slice A a.objs.length c, .int .i64 a.cap, .int .i64 a.last], .agg #[.slice B b.objs.length d, .int .i64 b.cap, .int .i64 b.last]] w (PrOut w base pb T F ct cf (prF a b a.objs.length s)) := by
  have HBA := hid (below_alloc2 w (.cells #[Value.slice A a.objs.length c, Value.int .i64 a.cap, Value.int .i64 a.last] 24) (.cells #[Value.slice B b.objs.length d, Value.int .i64 b.cap, Value.int .i64 b.last] 24))
  have X0 := hid ((Lies.new w 24 #[Value.slice A a.objs.length c, Value.int .i64 a.cap, Value.int .i64 a.last]).alloc (.cells #[Value.slice B b.objs.length d, Value.int .i64 b.cap, Value.int .i64 b.last] 24))
  have Y0 : Hid (Lies ((w.alloc (.cells #[Value.slice A a.objs.length c, Value.int .i64 a.cap, Value.int .i64 a.last] 24)).alloc (.cells #[Value.slice B b.objs.length d, Value.int .i64 b.cap, Value.int .i64 b.last] 24)) (w.heap.size + 1) 24 #[Value.slice B b.objs.length d, Value.int .i64 b.cap, Value.int .i64 b.last]) := by
    have := Lies.new (w.alloc (.cells #[Value.slice A a.objs.length c, Value.int .i64 a.cap, Value.int .i64 a.last] 24)) 24 #[Value.slice B b.objs.length d, Value.int .i64 b.cap, Value.int .i64 b.last]
    simpa [Hid] using this
  have HB0 := hid hb0
  have HSA := hid hsa
  have HSB := hid hsb
  have HMA := hid hma
  have HMB := hid hmb
  have HPS := hid (h.later HBA.out)
  have HGS := hid G
  have HTS := hid (Turn2.of_below HBA.out T F)
  have ha256 := may_len hma
  have hb256 := may_len hmb
  have HLT : Hid (∀ ad, T = some ad → w0.heap.size ≤ ad.block) := fun ad e => by subst e; have := (h.tow.lt ad.block rfl).1; omega
  have HLF : Hid (∀ ad, F = some ad → w0.heap.size ≤ ad.block) := fun ad e => by subst e; have := (h.frow.lt ad.block rfl).1; omega
  have HUT : Hid (∀ ad, T = some ad → ad.block < w.heap.size) := fun ad e => by subst e; exact (h.tow.lt ad.block rfl).2
  have HUF : Hid (∀ ad, F = some ad → ad.block < w.heap.size) := fun ad e => by subst e; exact (h.frow.lt ad.block rfl).2
  have HNT : Hid ((∀ ad, T = some ad → w.heap.size ≠ ad.block) ∧ (∀ ad, T = some ad → w.heap.size + 1 ≠ ad.block)) := ⟨fun ad e => by have := HUT.out ad e; omega, fun ad e => by have := HUT.out ad e; omega⟩
  have HNF : Hid ((∀ ad, F = some ad → w.heap.size ≠ ad.block) ∧ (∀ ad, F = some ad → w.heap.size + 1 ≠ ad.block)) := ⟨fun ad e => by have := HUF.out ad e; omega, fun ad e => by have := HUF.out ad e; omega⟩
  clear hb0 hsa hsb hma hmb h G
  go_enter Tryz.func63, Tryz.ntmps63
  go_wp2_with fail
  go_loopw [7] (fun v wr => ∃ (i : Nat) (s1 : Pr), i ≤ a.objs.length ∧ v = .int .i64 i ∧ prF a b i s = some s1 ∧ Good a b s1 ∧ PrW wr base pb T F ct cf s1 ∧ Turn2 w wr T F ∧ Lies wr w.heap.size 24 #[Value.slice A a.objs.length c, Value.int .i64 a.cap, Value.int .i64 a.last] ∧ Lies wr (w.heap.size + 1) 24 #[Value.slice B b.objs.length d, Value.int .i64 b.cap, Value.int .i64 b.last]) (fun v _ => a.objs.length - (intOf v).toNat)
  case atStart => exact ⟨0, s, Nat.zero_le _, rfl, rfl, HGS.out, HPS.out, HTS.out, X0.out, Y0.out⟩
  case round =>
    clear HPS HGS HTS X0 Y0 HBA
    obtain ⟨i, s1, hi, rfl, hpf, hg, hp, ht, hxa, hya⟩ := hrel
    rename World => wo
    have HPF := hid hpf
    have HG := hid hg
    have HP := hid hp
    have HT := hid ht
    have HX := hid hxa
    have HY := hid hya
    have hlt1 := Nat.le_of_eq hg.lt
    have hlt2 := Nat.le_of_eq hg.lt.symm
    have t0 := hp.box.cell 0
    simp only [List.getElem?_toArray, List.getElem?_cons_zero] at t0
    clear hpf hg hp ht hxa hya
    by_cases hlt : i < a.objs.length
    · have hit : i < s1.t.length := by omega
      obtain ⟨tb, ctt, htt, htb0, htb1⟩ := HP.out.tow.form (by omega)
      simp only [Value.slice.injEq, true_and] at htt
      obtain ⟨rfl, rfl⟩ := htt
      have tc := HP.out.tow.cellAt i (by omega)
      obtain ⟨z, hz⟩ : ∃ z, z = s1.T i := ⟨_, rfl⟩
      have hz1 : s1.t[i]? = some z := by rw [hz, List.getElem?_eq_getElem hit]; unfold Pr.T; rw [List.getD_eq_getElem?_getD, List.getElem?_eq_getElem hit]; rfl
      rw [List.getElem?_map, hz1] at tc
      simp only [Option.map_some] at tc
      have HZ := hid hz
      clear hz hz1
      by_cases hz0 : z < 0
      · have HDN : Hid (prF a b (i + 1) s = some s1) := by show _ = _; rw [prF_at HPF.out]; exact prO_skip (by rw [← HZ.out]; exact hz0)
        go_wp2_with fail
        go_roundw
        case rel => exact ⟨i + 1, s1, by omega, by go_num, HDN.out, HG.out, HP.out, HT.out, HX.out, HY.out⟩
        case measure => simp [intOf]; omega
      · obtain ⟨k, hk, hzk, -⟩ := HG.out.one i (by rw [← HZ.out]; omega)
        have HTI : Hid (0 ≤ s1.T i) := by show _ ≤ _; rw [← HZ.out]; omega
        have HTK := hid hzk
        obtain rfl : z = k := by rw [HZ.out]; exact hzk
        obtain ⟨fb, cff, hff, hfb0, hfb1⟩ := HP.out.frow.form (by have := HG.out.lf; omega)
        simp only [Value.slice.injEq, true_and] at hff
        obtain ⟨rfl, rfl⟩ := hff
        have hx := List.getElem?_eq_getElem hlt
        have hy := List.getElem?_eq_getElem hk
        obtain ⟨x, hxx⟩ : ∃ x, x = a.objs[i] := ⟨_, rfl⟩
        obtain ⟨y, hyy⟩ : ∃ y, y = b.objs[k] := ⟨_, rfl⟩
        rw [← hxx] at hx
        rw [← hyy] at hy
        have HX1 := hid hx
        have HY1 := hid hy
        have hxl := (kind_len (ob_kind (may_all HMA.out _ (List.mem_of_getElem? hx)))).1
        obtain ⟨ba, oa, rfl, hba, hca⟩ := HSA.out (by omega)
        obtain ⟨bb, ob, rfl, hbb, hcb⟩ := HSB.out (by omega)
        obtain ⟨S, ds, hobx, hinx, -, -⟩ := hca i _ hx
        obtain ⟨S2, dt, hoby, hiny, -, -⟩ := hcb k _ hy
        have hbw : Below w0.heap.size w0 wo := HB0.out.trans (HT.out.below HB0.out.size HLT.out HLF.out)
        obtain ⟨p0, p1, p2, p3, p4, p5⟩ := hobx.below hba hbw
        obtain ⟨q0, q1, q2, q3, q4, q5⟩ := hoby.below hbb hbw
        have HIX := hid hinx
        have HIY := hid hiny
        have x0 := HX.out.cell 0
        have y0 := HY.out.cell 0
        simp only [List.getElem?_toArray, List.getElem?_cons_zero] at x0 y0
        have HFN : Hid (prO a b s1 i = none → prF a b a.objs.length s = none) := fun g => prF_none (i := i) (by rw [prF_at HPF.out]; exact g) (by omega)
        have hut := HUT.out _ rfl
        have huf := HUF.out _ rfl
        have hwz := HT.out.size
        simp only at hut huf
        clear hx hy hxx hyy hca hcb hobx hoby hinx hiny hbw HZ hzk
        go_wp2_with fail
        refine wp_region_held_drew (S := (fun w' => w'.cell? ⟨w.heap.size, 0, none⟩ = some (.slice (some ⟨ba, oa, none⟩) a.objs.length c) ∧ w'.cell? ⟨w.heap.size + 1, 0, none⟩ = some (.slice (some ⟨bb, ob, none⟩) b.objs.length d) ∧ w'.cell? ⟨pb, 0, none⟩ = some (.slice (some ⟨tb, 0, none⟩) s1.t.length ct) ∧ w'.cell? ⟨tb, i, none⟩ = some (.int .i64 (k : Int)) ∧ w'.cell? ⟨ba, oa + i * 6, none⟩ = some (.int .i64 x.cls) ∧ w'.cell? ⟨ba, oa + i * 6 + 1, none⟩ = some (.int .i64 x.kind) ∧ w'.cell? ⟨ba, oa + i * 6 + 2, none⟩ = some (.slice S x.slots.length ds) ∧ w'.cell? ⟨ba, oa + i * 6 + 3, none⟩ = some (.string x.text) ∧ w'.cell? ⟨ba, oa + i * 6 + 4, none⟩ = some (.int .i64 x.bits) ∧ w'.cell? ⟨ba, oa + i * 6 + 5, none⟩ = some (.int .i64 x.hash) ∧ w'.cell? ⟨bb, ob + k * 6, none⟩ = some (.int .i64 y.cls) ∧ w'.cell? ⟨bb, ob + k * 6 + 1, none⟩ = some (.int .i64 y.kind) ∧ w'.cell? ⟨bb, ob + k * 6 + 2, none⟩ = some (.slice S2 y.slots.length dt) ∧ w'.cell? ⟨bb, ob + k * 6 + 3, none⟩ = some (.string y.text) ∧ w'.cell? ⟨bb, ob + k * 6 + 4, none⟩ = some (.int .i64 y.bits) ∧ w'.cell? ⟨bb, ob + k * 6 + 5, none⟩ = some (.int .i64 y.hash))) (by kernel_rfl) ?_ (fun hH0 => ?_)
        · exact ⟨x0, y0, t0, tc, p0, p1, p2, p3, p4, p5, q0, q1, q2, q3, q4, q5⟩
        refine wpAnyH_take (i := 0) (oi := { dst := some 28, op := Go.Op.fieldAddr 24 (Go.Operand.tmp 4) 0, type := 0, pos := "ref.go:98", after := #[], guard := none }) (v := ?vv1) rfl (by kernel_rfl) (by kernel_rfl) (by kernel_rfl) (fun _ _ _ h => h) (Or.inl ⟨by rfl, ?hy1⟩) (by assumption) ?rr1
        case hy1 => intro w hSw; (try dsimp only at hSw); go_simp; all_goals with_reducible rfl
        try simp only [Act.put, List.setIfInBounds_toArray, List.set_cons_zero, List.set_cons_succ]
        refine wpAnyH_take (i := 1) (oi := { dst := some 29, op := Go.Op.load 22 (Go.Operand.tmp 28), type := 22, pos := "ref.go:98", after := #[{ on := 0, ground := Go.Ground.data }], guard := none }) (v := ?vv2) rfl (by kernel_rfl) (by kernel_rfl) (by kernel_rfl) (fun _ _ _ h => h) (Or.inl ⟨by rfl, ?hy2⟩) (by assumption) ?rr2
        case hy2 => intro w hSw; (try dsimp only at hSw); go_simp; all_goals with_reducible rfl
        try simp only [Act.put, List.setIfInBounds_toArray, List.set_cons_zero, List.set_cons_succ]
        refine wpAnyH_take (i := 2) (oi := { dst := some 30, op := Go.Op.move (Go.Operand.tmp 7), type := 3, pos := "ref.go:98", after := #[], guard := none }) (v := ?vv3) rfl (by kernel_rfl) (by kernel_rfl) (by kernel_rfl) (fun _ _ _ h => h) (Or.inl ⟨by rfl, ?hy3⟩) (by assumption) ?rr3
        case hy3 => intro w hSw; (try dsimp only at hSw); go_simp; all_goals with_reducible rfl
        try simp only [Act.put, List.setIfInBounds_toArray, List.set_cons_zero, List.set_cons_succ]
        refine wpAnyH_take (i := 3) (oi := { dst := some 31, op := Go.Op.indexAddr 22 (Go.Operand.tmp 29) (Go.Operand.tmp 30), type := 0, pos := "ref.go:98", after := #[{ on := 1, ground := Go.Ground.data }, { on := 2, ground := Go.Ground.data }], guard := none }) (v := ?vv4) rfl (by kernel_rfl) (by kernel_rfl) (by kernel_rfl) (fun _ _ _ h => h) (Or.inl ⟨by rfl, ?hy4⟩) (by assumption) ?rr4
        case hy4 => intro w hSw; (try dsimp only at hSw); go_simp; all_goals with_reducible rfl
        try simp only [Act.put, List.setIfInBounds_toArray, List.set_cons_zero, List.set_cons_succ]
        refine wpAnyH_take (i := 4) (oi := { dst := some 32, op := Go.Op.load 41 (Go.Operand.tmp 31), type := 41, pos := "ref.go:98", after := #[{ on := 3, ground := Go.Ground.data }], guard := none }) (v := ?vv5) rfl (by kernel_rfl) (by kernel_rfl) (by kernel_rfl) (fun _ _ _ h => h) (Or.inl ⟨by rfl, ?hy5⟩) (by assumption) ?rr5
        case hy5 => intro w hSw; (try dsimp only at hSw); go_simp; all_goals with_reducible rfl
        try simp only [Act.put, List.setIfInBounds_toArray, List.set_cons_zero, List.set_cons_succ]
        refine wpAnyH_take (i := 5) (oi := { dst := some 33, op := Go.Op.fieldAddr 24 (Go.Operand.tmp 5) 0, type := 0, pos := "ref.go:98", after := #[{ on := 18, ground := Go.Ground.gcOnly Go.Departure.lateStores }], guard := none }) (v := ?vv6) rfl (by kernel_rfl) (by kernel_rfl) (by kernel_rfl) (fun _ _ _ h => h) (Or.inl ⟨by rfl, ?hy6⟩) (by assumption) ?rr6
        case hy6 => intro w hSw; (try dsimp only at hSw); go_simp; all_goals with_reducible rfl
        try simp only [Act.put, List.setIfInBounds_toArray, List.set_cons_zero, List.set_cons_succ]
        refine wpAnyH_take (i := 6) (oi := { dst := some 34, op := Go.Op.load 22 (Go.Operand.tmp 33), type := 22, pos := "ref.go:98", after := #[{ on := 5, ground := Go.Ground.data }, { on := 18, ground := Go.Ground.gcOnly Go.Departure.lateStores }], guard := none }) (v := ?vv7) rfl (by kernel_rfl) (by kernel_rfl) (by kernel_rfl) (fun _ _ _ h => h) (Or.inl ⟨by rfl, ?hy7⟩) (by assumption) ?rr7
        case hy7 => intro w hSw; (try dsimp only at hSw); go_simp; all_goals with_reducible rfl
        try simp only [Act.put, List.setIfInBounds_toArray, List.set_cons_zero, List.set_cons_succ]
        refine wpAnyH_take (i := 7) (oi := { dst := some 35, op := Go.Op.move (Go.Operand.tmp 0), type := 78, pos := "ref.go:98", after := #[{ on := 18, ground := Go.Ground.gcOnly Go.Departure.lateStores }], guard := none }) (v := ?vv8) rfl (by kernel_rfl) (by kernel_rfl) (by kernel_rfl) (fun _ _ _ h => h) (Or.inl ⟨by rfl, ?hy8⟩) (by assumption) ?rr8
        case hy8 => intro w hSw; (try dsimp only at hSw); go_simp; all_goals with_reducible rfl
        try simp only [Act.put, List.setIfInBounds_toArray, List.set_cons_zero, List.set_cons_succ]
        refine wpAnyH_take (i := 8) (oi := { dst := some 36, op := Go.Op.nilCheck (Go.Operand.tmp 35), type := 0, pos := "ref.go:98", after := #[{ on := 7, ground := Go.Ground.data }, { on := 18, ground := Go.Ground.gcOnly Go.Departure.lateStores }], guard := none }) (v := ?vv9) rfl (by kernel_rfl) (by kernel_rfl) (by kernel_rfl) (fun _ _ _ h => h) (Or.inl ⟨by rfl, ?hy9⟩) (by assumption) ?rr9
        case hy9 => intro w hSw; (try dsimp only at hSw); go_simp; all_goals with_reducible rfl
        try simp only [Act.put, List.setIfInBounds_toArray, List.set_cons_zero, List.set_cons_succ]
        refine wpAnyH_take (i := 9) (oi := { dst := some 37, op := Go.Op.fieldAddr 81 (Go.Operand.tmp 36) 0, type := 0, pos := "ref.go:98", after := #[{ on := 8, ground := Go.Ground.data }, { on := 18, ground := Go.Ground.gcOnly Go.Departure.lateStores }], guard := none }) (v := ?vv10) rfl (by kernel_rfl) (by kernel_rfl) (by kernel_rfl) (fun _ _ _ h => h) (Or.inl ⟨by rfl, ?hy10⟩) (by assumption) ?rr10
        case hy10 => intro w hSw; (try dsimp only at hSw); go_simp; all_goals with_reducible rfl
        try simp only [Act.put, List.setIfInBounds_toArray, List.set_cons_zero, List.set_cons_succ]
        refine wpAnyH_take (i := 10) (oi := { dst := some 38, op := Go.Op.load 34 (Go.Operand.tmp 37), type := 34, pos := "ref.go:98", after := #[{ on := 9, ground := Go.Ground.data }, { on := 18, ground := Go.Ground.gcOnly Go.Departure.lateStores }], guard := none }) (v := ?vv11) rfl (by kernel_rfl) (by kernel_rfl) (by kernel_rfl) (fun _ _ _ h => h) (Or.inl ⟨by rfl, ?hy11⟩) (by assumption) ?rr11
        case hy11 => intro w hSw; (try dsimp only at hSw); go_simp; all_goals with_reducible rfl
        try simp only [Act.put, List.setIfInBounds_toArray, List.set_cons_zero, List.set_cons_succ]
        refine wpAnyH_take (i := 11) (oi := { dst := some 39, op := Go.Op.move (Go.Operand.tmp 7), type := 3, pos := "ref.go:98", after := #[{ on := 18, ground := Go.Ground.gcOnly Go.Departure.lateStores }], guard := none }) (v := ?vv12) rfl (by kernel_rfl) (by kernel_rfl) (by kernel_rfl) (fun _ _ _ h => h) (Or.inl ⟨by rfl, ?hy12⟩) (by assumption) ?rr12
        case hy12 => intro w hSw; (try dsimp only at hSw); go_simp; all_goals with_reducible rfl
        try simp only [Act.put, List.setIfInBounds_toArray, List.set_cons_zero, List.set_cons_succ]
        refine wpAnyH_take (i := 12) (oi := { dst := some 40, op := Go.Op.indexAddr 34 (Go.Operand.tmp 38) (Go.Operand.tmp 39), type := 0, pos := "ref.go:98", after := #[{ on := 10, ground := Go.Ground.data }, { on := 11, ground := Go.Ground.data }, { on := 18, ground := Go.Ground.gcOnly Go.Departure.lateStores }], guard := none }) (v := ?vv13) rfl (by kernel_rfl) (by kernel_rfl) (by kernel_rfl) (fun _ _ _ h => h) (Or.inl ⟨by rfl, ?hy13⟩) (by assumption) ?rr13
        case hy13 => intro w hSw; (try dsimp only at hSw); go_simp; all_goals with_reducible rfl
        try simp only [Act.put, List.setIfInBounds_toArray, List.set_cons_zero, List.set_cons_succ]
        refine wpAnyH_take (i := 13) (oi := { dst := some 41, op := Go.Op.load 3 (Go.Operand.tmp 40), type := 3, pos := "ref.go:98", after := #[{ on := 12, ground := Go.Ground.data }, { on := 18, ground := Go.Ground.gcOnly Go.Departure.lateStores }], guard := none }) (v := ?vv14) rfl (by kernel_rfl) (by kernel_rfl) (by kernel_rfl) (fun _ _ _ h => h) (Or.inl ⟨by rfl, ?hy14⟩) (by assumption) ?rr14
        case hy14 => intro w hSw; (try dsimp only at hSw); go_simp; all_goals with_reducible rfl
        try simp only [Act.put, List.setIfInBounds_toArray, List.set_cons_zero, List.set_cons_succ]
        refine wpAnyH_take (i := 14) (oi := { dst := some 42, op := Go.Op.indexAddr 22 (Go.Operand.tmp 34) (Go.Operand.tmp 41), type := 0, pos := "ref.go:98", after := #[{ on := 6, ground := Go.Ground.data }, { on := 13, ground := Go.Ground.data }, { on := 18, ground := Go.Ground.gcOnly Go.Departure.lateStores }], guard := none }) (v := ?vv15) rfl (by kernel_rfl) (by kernel_rfl) (by kernel_rfl) (fun _ _ _ h => h) (Or.inl ⟨by rfl, ?hy15⟩) (by assumption) ?rr15
        case hy15 => intro w hSw; (try dsimp only at hSw); go_simp; all_goals with_reducible rfl
        try simp only [Act.put, List.setIfInBounds_toArray, List.set_cons_zero, List.set_cons_succ]
        refine wpAnyH_take (i := 15) (oi := { dst := some 43, op := Go.Op.load 41 (Go.Operand.tmp 42), type := 41, pos := "ref.go:98", after := #[{ on := 14, ground := Go.Ground.data }, { on := 18, ground := Go.Ground.gcOnly Go.Departure.lateStores }], guard := none }) (v := ?vv16) rfl (by kernel_rfl) (by kernel_rfl) (by kernel_rfl) (fun _ _ _ h => h) (Or.inl ⟨by rfl, ?hy16⟩) (by assumption) ?rr16
        case hy16 => intro w hSw; (try dsimp only at hSw); go_simp; all_goals with_reducible rfl
        try simp only [Act.put, List.setIfInBounds_toArray, List.set_cons_zero, List.set_cons_succ]
        refine wpAnyH_ready (rs := [16, 17]) (by kernel_rfl) (by simp) ?_
        refine AllReadyH.cons (i := 16) (o := { dst := some 8, op := Go.Op.alloc 41, type := 0, pos := "ref.go:98", after := #[], guard := none }) rfl (fun K hK => ?_) (AllReadyH.cons (i := 17) (o := { dst := some 9, op := Go.Op.alloc 41, type := 0, pos := "ref.go:98", after := #[], guard := none }) rfl (fun K hK => ?_) AllReadyH.nil)
        · go_simp
          refine hK.out _ _ ?_ (fun hH1 => ?_)
          · exact ⟨cell_old hH0.1, cell_old hH0.2.1, cell_old hH0.2.2.1, cell_old hH0.2.2.2.1, cell_old hH0.2.2.2.2.1, cell_old hH0.2.2.2.2.2.1, cell_old hH0.2.2.2.2.2.2.1, cell_old hH0.2.2.2.2.2.2.2.1, cell_old hH0.2.2.2.2.2.2.2.2.1, cell_old hH0.2.2.2.2.2.2.2.2.2.1, cell_old hH0.2.2.2.2.2.2.2.2.2.2.1, cell_old hH0.2.2.2.2.2.2.2.2.2.2.2.1, cell_old hH0.2.2.2.2.2.2.2.2.2.2.2.2.1, cell_old hH0.2.2.2.2.2.2.2.2.2.2.2.2.2.1, cell_old hH0.2.2.2.2.2.2.2.2.2.2.2.2.2.2.1, cell_old hH0.2.2.2.2.2.2.2.2.2.2.2.2.2.2.2⟩
          clear hK K
          try simp only [Act.put, List.setIfInBounds_toArray, List.set_cons_zero, List.set_cons_succ]
          refine wpAnyH_ready (rs := [17]) (by kernel_rfl) (by simp) ?_
          refine AllReadyH.cons (i := 17) (o := { dst := some 9, op := Go.Op.alloc 41, type := 0, pos := "ref.go:98", after := #[], guard := none }) rfl (fun K hK => ?_) AllReadyH.nil
          go_simp
          refine hK.out _ _ ?_ (fun hH2 => ?_)
          · exact ⟨cell_old hH1.1, cell_old hH1.2.1, cell_old hH1.2.2.1, cell_old hH1.2.2.2.1, cell_old hH1.2.2.2.2.1, cell_old hH1.2.2.2.2.2.1, cell_old hH1.2.2.2.2.2.2.1, cell_old hH1.2.2.2.2.2.2.2.1, cell_old hH1.2.2.2.2.2.2.2.2.1, cell_old hH1.2.2.2.2.2.2.2.2.2.1, cell_old hH1.2.2.2.2.2.2.2.2.2.2.1, cell_old hH1.2.2.2.2.2.2.2.2.2.2.2.1, cell_old hH1.2.2.2.2.2.2.2.2.2.2.2.2.1, cell_old hH1.2.2.2.2.2.2.2.2.2.2.2.2.2.1, cell_old hH1.2.2.2.2.2.2.2.2.2.2.2.2.2.2.1, cell_old hH1.2.2.2.2.2.2.2.2.2.2.2.2.2.2.2⟩
          clear hK K
          try simp only [Act.put, List.setIfInBounds_toArray, List.set_cons_zero, List.set_cons_succ]
          refine wpAnyH_ready (rs := [18]) (by kernel_rfl) (by simp) ?_
          refine AllReadyH.cons (i := 18) (o := { dst := none, op := Go.Op.store 41 (Go.Operand.tmp 8) (Go.Operand.tmp 32), type := 0, pos := "ref.go:98", after := #[{ on := 16, ground := Go.Ground.data }, { on := 4, ground := Go.Ground.data }, { on := 0, ground := Go.Ground.phase }, { on := 1, ground := Go.Ground.phase }, { on := 2, ground := Go.Ground.phase }, { on := 3, ground := Go.Ground.phase }, { on := 4, ground := Go.Ground.phase }, { on := 5, ground := Go.Ground.textOnly Go.Departure.lateStores }, { on := 6, ground := Go.Ground.textOnly Go.Departure.lateStores }, { on := 7, ground := Go.Ground.textOnly Go.Departure.lateStores }, { on := 8, ground := Go.Ground.textOnly Go.Departure.lateStores }, { on := 9, ground := Go.Ground.textOnly Go.Departure.lateStores }, { on := 10, ground := Go.Ground.textOnly Go.Departure.lateStores }, { on := 11, ground := Go.Ground.textOnly Go.Departure.lateStores }, { on := 12, ground := Go.Ground.textOnly Go.Departure.lateStores }, { on := 13, ground := Go.Ground.textOnly Go.Departure.lateStores }, { on := 14, ground := Go.Ground.textOnly Go.Departure.lateStores }, { on := 15, ground := Go.Ground.textOnly Go.Departure.lateStores }, { on := 16, ground := Go.Ground.phase }, { on := 17, ground := Go.Ground.phase }], guard := none }) rfl (fun K hK => ?_) AllReadyH.nil
          go_simp
          refine hK.out _ _ ?_ (fun hH3 => ?_)
          · exact ⟨two_old2 x0, two_old2 y0, two_old2 t0, two_old2 tc, two_old2 p0, two_old2 p1, two_old2 p2, two_old2 p3, two_old2 p4, two_old2 p5, two_old2 q0, two_old2 q1, two_old2 q2, two_old2 q3, two_old2 q4, two_old2 q5⟩
          clear hK K
          try simp only [Act.put, List.setIfInBounds_toArray, List.set_cons_zero, List.set_cons_succ]
          refine wpAnyH_ready (rs := [19]) (by kernel_rfl) (by simp) ?_
          refine AllReadyH.cons (i := 19) (o := { dst := none, op := Go.Op.store 41 (Go.Operand.tmp 9) (Go.Operand.tmp 43), type := 0, pos := "ref.go:98", after := #[{ on := 17, ground := Go.Ground.data }, { on := 15, ground := Go.Ground.data }, { on := 18, ground := Go.Ground.chain }, { on := 0, ground := Go.Ground.phase }, { on := 1, ground := Go.Ground.phase }, { on := 2, ground := Go.Ground.phase }, { on := 3, ground := Go.Ground.phase }, { on := 4, ground := Go.Ground.phase }, { on := 5, ground := Go.Ground.phase }, { on := 6, ground := Go.Ground.phase }, { on := 7, ground := Go.Ground.phase }, { on := 8, ground := Go.Ground.phase }, { on := 9, ground := Go.Ground.phase }, { on := 10, ground := Go.Ground.phase }, { on := 11, ground := Go.Ground.phase }, { on := 12, ground := Go.Ground.phase }, { on := 13, ground := Go.Ground.phase }, { on := 14, ground := Go.Ground.phase }, { on := 15, ground := Go.Ground.phase }, { on := 16, ground := Go.Ground.phase }, { on := 17, ground := Go.Ground.phase }, { on := 18, ground := Go.Ground.phase }], guard := none }) rfl (fun K hK => ?_) AllReadyH.nil
          go_simp
          refine hK.out _ _ ?_ (fun hH4 => ?_)
          · exact ⟨two_old2 x0, two_old2 y0, two_old2 t0, two_old2 tc, two_old2 p0, two_old2 p1, two_old2 p2, two_old2 p3, two_old2 p4, two_old2 p5, two_old2 q0, two_old2 q1, two_old2 q2, two_old2 q3, two_old2 q4, two_old2 q5⟩
          clear hK K
          try simp only [Act.put, List.setIfInBounds_toArray, List.set_cons_zero, List.set_cons_succ]
          refine wpAnyH_done (by kernel_rfl) ?_ _
          obtain ⟨W, hW⟩ : ∃ W, W = ((wo.alloc (.cells #[.int .i64 x.cls, .int .i64 x.kind, .slice S x.slots.length ds, .string x.text, .int .i64 x.bits, .int .i64 x.hash] 41)).alloc (.cells #[.int .i64 y.cls, .int .i64 y.kind, .slice S2 y.slots.length dt, .string y.text, .int .i64 y.bits, .int .i64 y.hash] 41)).drew := ⟨_, rfl⟩
          have hB : Below wo.heap.size wo W := by rw [hW]; exact ((below_alloc wo _).alloc (by simp) _).drew
          have hL1 : Lies W wo.heap.size 41 #[.int .i64 x.cls, .int .i64 x.kind, .slice S x.slots.length ds, .string x.text, .int .i64 x.bits, .int .i64 x.hash] := by rw [hW]; exact ((Lies.new wo 41 _).alloc _).drew
          have hL2 : Lies W (wo.heap.size + 1) 41 #[.int .i64 y.cls, .int .i64 y.kind, .slice S2 y.slots.length dt, .string y.text, .int .i64 y.bits, .int .i64 y.hash] := by
            rw [hW]
            have := (Lies.new (wo.alloc (.cells #[.int .i64 x.cls, .int .i64 x.kind, .slice S x.slots.length ds, .string x.text, .int .i64 x.bits, .int .i64 x.hash] 41)) 41 #[.int .i64 y.cls, .int .i64 y.kind, .slice S2 y.slots.length dt, .string y.text, .int .i64 y.bits, .int .i64 y.hash]).drew
            simpa using this
          rw [← hW]
          obtain ⟨N2, hN2⟩ : ∃ n, n = wo.heap.size + 1 := ⟨_, rfl⟩
          rw [← hN2]
          rw [← hN2] at hL2
          obtain ⟨N1, hN1⟩ : ∃ n, n = wo.heap.size := ⟨_, rfl⟩
          rw [← hN1]
          rw [← hN1] at hL1
          have hlo1 : wo.heap.size ≤ N1 := by omega
          have hlo2 : wo.heap.size ≤ N2 := by omega
          have HLX := hid hL1
          have HLY := hid hL2
          have HB := hid hB
          clear hW hB hL1 hL2 hN1 hN2 x0 y0 t0 tc p0 q0 p1 q1 p2 q2 p3 q3 p4 q4 p5 q5
          have HTW := hid (HT.out.trans (.of_below HB.out _ _))
          have HXA := hid (HX.out.later HB.out)
          have HYA := hid (HY.out.later HB.out)
          have HPW := hid (HP.out.later HB.out)
          have e0 := HLX.out.cell 0
          have e1 := HLX.out.cell 1
          have e2 := HLX.out.cell 2
          have e3 := HLX.out.cell 3
          have e4 := HLX.out.cell 4
          have e5 := HLX.out.cell 5
          simp only [List.getElem?_toArray, List.getElem?_cons_zero, List.getElem?_cons_succ] at e0 e1 e2 e3 e4 e5
          have f0 := HLY.out.cell 0
          have f1 := HLY.out.cell 1
          have f2 := HLY.out.cell 2
          have f3 := HLY.out.cell 3
          have f4 := HLY.out.cell 4
          have f5 := HLY.out.cell 5
          simp only [List.getElem?_toArray, List.getElem?_cons_zero, List.getElem?_cons_succ] at f0 f1 f2 f3 f4 f5
          have x0 := HXA.out.cell 0
          have x1 := HXA.out.cell 1
          have x2 := HXA.out.cell 2
          simp only [List.getElem?_toArray, List.getElem?_cons_zero, List.getElem?_cons_succ] at x0 x1 x2
          have y0 := HYA.out.cell 0
          have y1 := HYA.out.cell 1
          have y2 := HYA.out.cell 2
          simp only [List.getElem?_toArray, List.getElem?_cons_zero, List.getElem?_cons_succ] at y0 y1 y2
          by_cases q0 : x.kind = y.kind
          · have t0 : (x.kind != y.kind) = false := by simp [q0]
            have Q0 := hid q0
            clear q0
            by_cases q1 : x.text = y.text
            · have t1 : x.text.toList = y.text.toList := by rw [q1]
              have Q1 := hid q1
              clear q1
              by_cases q2 : x.bits = y.bits
              · have t2 : (x.bits != y.bits) = false := by simp [q2]
                have Q2 := hid q2
                clear q2
                by_cases q3 : x.hash = y.hash
                · have t3 : (x.hash != y.hash) = false := by simp [q3]
                  have Q3 := hid q3
                  clear q3
                  by_cases q4 : x.slots.length = y.slots.length
                  · have t4 : ((x.slots.length : Int) != (y.slots.length : Int)) = false := by simp [q4]
                    have Q4 := hid q4
                    clear q4
                    have HAL : Hid (alike x y) := ⟨Q0.out, Q1.out, Q2.out, Q3.out, Q4.out⟩
                    have HYES := hid (prO_yes HTI.out HX1.out HY1.out HTK.out HAL.out)
                    cases hpv : prV a b s1 x.cls y.cls
                    · have HNN : Hid (prF a b a.objs.length s = none) := HFN.out (by rw [HYES.out, hpv]; rfl)
                      go_wp2_with fail
                      clear t0 t1 t2 t3 t4
                      refine (pair_any a b s1 x.cls y.cls base pb (some ⟨tb, 0, none⟩) (some ⟨fb, 0, none⟩) (some ⟨ba, oa, none⟩) (some ⟨bb, ob, none⟩) ct cf c d W HPW.out HG.out ha256 hb256).mono ?_
                      rintro e w7 ⟨ht7, hr7⟩
                      rw [hpv] at hr7
                      rcases hr7 with ⟨_, g, -⟩ | ⟨-, rfl⟩
                      · cases g
                      have HT7 := hid (HTW.out.trans ht7)
                      clear ht7
                      go_wp2_with fail
                      go_ret
                      exact ⟨HT7.out, .inr ⟨HNN.out, rfl⟩⟩
                    · rename_i s2
                      have HG2 := hid (prV_goes HG.out hpv).1.good
                      have HSTEP : Hid (prO a b s1 i = prL a b s2 x.slots y.slots) := by show _ = _; rw [HYES.out, hpv]; rfl
                      go_wp2_with fail
                      clear t0 t1 t2 t3 t4
                      refine (pair_any a b s1 x.cls y.cls base pb (some ⟨tb, 0, none⟩) (some ⟨fb, 0, none⟩) (some ⟨ba, oa, none⟩) (some ⟨bb, ob, none⟩) ct cf c d W HPW.out HG.out ha256 hb256).mono ?_
                      rintro e w7 ⟨ht7, hr7⟩
                      rw [hpv] at hr7
                      rcases hr7 with ⟨_, g, rfl, hp7⟩ | ⟨g, -⟩
                      case inr => cases g
                      obtain rfl := Option.some.inj g
                      have HT7 := hid (HTW.out.trans ht7)
                      have HP7 := hid hp7
                      have HXA7 := hid (ht7.lies HXA.out HNT.out.1 HNF.out.1)
                      have HYA7 := hid (ht7.lies HYA.out HNT.out.2 HNF.out.2)
                      have HLX7 := hid (ht7.lies HLX.out (fun ad e => by cases e; show N1 ≠ tb; omega) (fun ad e => by cases e; show N1 ≠ fb; omega))
                      have HLY7 := hid (ht7.lies HLY.out (fun ad e => by cases e; show N2 ≠ tb; omega) (fun ad e => by cases e; show N2 ≠ fb; omega))
                      clear ht7 hp7 g hpv x0 x1 x2 y0 y1 y2 e0 e1 e2 e3 e4 e5 f0 f1 f2 f3 f4 f5
                      go_wp2_with fail
                      go_loopw [10] (fun v wr => ∃ (j : Nat) (s3 : Pr), j ≤ x.slots.length ∧ v = .int .i64 j ∧ prL a b s2 (x.slots.take j) (y.slots.take j) = some s3 ∧ Good a b s3 ∧ PrW wr base pb (some ⟨tb, 0, none⟩) (some ⟨fb, 0, none⟩) ct cf s3 ∧ Turn2 w wr (some ⟨tb, 0, none⟩) (some ⟨fb, 0, none⟩) ∧ Lies wr w.heap.size 24 #[Value.slice (some ⟨ba, oa, none⟩) a.objs.length c, Value.int .i64 a.cap, Value.int .i64 a.last] ∧ Lies wr (w.heap.size + 1) 24 #[Value.slice (some ⟨bb, ob, none⟩) b.objs.length d, Value.int .i64 b.cap, Value.int .i64 b.last] ∧ Lies wr N1 41 #[.int .i64 x.cls, .int .i64 x.kind, .slice S x.slots.length ds, .string x.text, .int .i64 x.bits, .int .i64 x.hash] ∧ Lies wr N2 41 #[.int .i64 y.cls, .int .i64 y.kind, .slice S2 y.slots.length dt, .string y.text, .int .i64 y.bits, .int .i64 y.hash]) (fun v _ => x.slots.length - (intOf v).toNat)
                      case atStart => exact ⟨0, s2, Nat.zero_le _, rfl, rfl, HG2.out, HP7.out, HT7.out, HXA7.out, HYA7.out, HLX7.out, HLY7.out⟩
                      case round =>
                        clear HP7 HT7 HXA7 HYA7 HLX7 HLY7 HPW HTW HXA HYA HLX HLY
                        obtain ⟨j, s3, hj, rfl, hpl, hg3, hp3, ht3, hxa, hya, hlx, hly⟩ := hrel
                        rename World => wi
                        have HPL := hid hpl
                        have HG3 := hid hg3
                        have HP3 := hid hp3
                        have HT3 := hid ht3
                        have HXA := hid hxa
                        have HYA := hid hya
                        have HLX := hid hlx
                        have HLY := hid hly
                        clear hpl hg3 hp3 ht3 hxa hya hlx hly
                        have x0 := HXA.out.cell 0
                        have x1 := HXA.out.cell 1
                        have x2 := HXA.out.cell 2
                        simp only [List.getElem?_toArray, List.getElem?_cons_zero, List.getElem?_cons_succ] at x0 x1 x2
                        have y0 := HYA.out.cell 0
                        have y1 := HYA.out.cell 1
                        have y2 := HYA.out.cell 2
                        simp only [List.getElem?_toArray, List.getElem?_cons_zero, List.getElem?_cons_succ] at y0 y1 y2
                        have e2 := HLX.out.cell 2
                        have f2 := HLY.out.cell 2
                        simp only [List.getElem?_toArray, List.getElem?_cons_zero, List.getElem?_cons_succ] at e2 f2
                        by_cases hlt : j < x.slots.length
                        · have hlt2 : j < y.slots.length := by have := Q4.out; omega
                          obtain ⟨bs, os, rfl, hbs, hcs⟩ := HIX.out (by omega)
                          obtain ⟨bt, ot, rfl, hbt, hct⟩ := HIY.out (by omega)
                          have hbw : Below w0.heap.size w0 wi := HB0.out.trans (HT3.out.below HB0.out.size HLT.out HLF.out)
                          have sc := (hbw.cell (p := ⟨bs, os + j, none⟩) hbs).trans (hcs j _ (List.getElem?_eq_getElem hlt))
                          have uc := (hbw.cell (p := ⟨bt, ot + j, none⟩) hbt).trans (hct j _ (List.getElem?_eq_getElem hlt2))
                          have htk := prL_take (a := a) (b := b) (s := s2) Q4.out hlt
                          have hnone := @prL_none a b s2 x.slots y.slots (j + 1) Q4.out
                          obtain ⟨v, hv⟩ : ∃ v, v = x.slots[j] := ⟨_, rfl⟩
                          obtain ⟨u, hu⟩ : ∃ u, u = y.slots[j] := ⟨_, rfl⟩
                          rw [← hv] at sc htk
                          rw [← hu] at uc htk
                          rw [HPL.out] at htk
                          have HTK3 : Hid (prL a b s2 (x.slots.take (j + 1)) (y.slots.take (j + 1)) = prV a b s3 v u) := htk
                          have HNO := hid hnone
                          have n0 : bs ≠ tb := by have := HLT.out _ rfl; simp at this; omega
                          have n1 : bs ≠ fb := by have := HLF.out _ rfl; simp at this; omega
                          have n2 : bt ≠ tb := by have := HLT.out _ rfl; simp at this; omega
                          have n3 : bt ≠ fb := by have := HLF.out _ rfl; simp at this; omega
                          clear hcs hct hbw htk hnone hv hu
                          cases hpv : prV a b s3 v u
                          · have HNN : Hid (prF a b a.objs.length s = none) := HFN.out (by rw [HSTEP.out]; exact HNO.out (by rw [HTK3.out]; exact hpv))
                            go_wp2_with fail
                            refine wp_region_held_drew (S := (fun w' => w'.cell? ⟨w.heap.size, 0, none⟩ = some (.slice (some ⟨ba, oa, none⟩) a.objs.length c) ∧ w'.cell? ⟨w.heap.size, 1, none⟩ = some (.int .i64 a.cap) ∧ w'.cell? ⟨w.heap.size, 2, none⟩ = some (.int .i64 a.last) ∧ w'.cell? ⟨w.heap.size + 1, 0, none⟩ = some (.slice (some ⟨bb, ob, none⟩) b.objs.length d) ∧ w'.cell? ⟨w.heap.size + 1, 1, none⟩ = some (.int .i64 b.cap) ∧ w'.cell? ⟨w.heap.size + 1, 2, none⟩ = some (.int .i64 b.last) ∧ w'.cell? ⟨N1, 2, none⟩ = some (.slice (some ⟨bs, os, none⟩) x.slots.length ds) ∧ w'.cell? ⟨N2, 2, none⟩ = some (.slice (some ⟨bt, ot, none⟩) y.slots.length dt) ∧ w'.cell? ⟨bs, os + j, none⟩ = some (.int .i64 v) ∧ w'.cell? ⟨bt, ot + j, none⟩ = some (.int .i64 u))) (by kernel_rfl) ?_ (fun hH0 => ?_)
                            · exact ⟨x0, x1, x2, y0, y1, y2, e2, f2, sc, uc⟩
                            refine wpAnyH_take (i := 0) (oi := { dst := some 97, op := Go.Op.move (Go.Operand.tmp 0), type := 78, pos := "ref.go:103", after := #[], guard := none }) (v := ?vv17) rfl (by kernel_rfl) (by kernel_rfl) (by kernel_rfl) (fun _ _ _ h => h) (Or.inl ⟨by rfl, ?hy17⟩) (by assumption) ?rr17
                            case hy17 => intro w hSw; (try dsimp only at hSw); go_simp; all_goals with_reducible rfl
                            try simp only [Act.put, List.setIfInBounds_toArray, List.set_cons_zero, List.set_cons_succ]
                            refine wpAnyH_take (i := 1) (oi := { dst := some 98, op := Go.Op.load 24 (Go.Operand.tmp 4), type := 24, pos := "ref.go:103", after := #[], guard := none }) (v := ?vv18) rfl (by kernel_rfl) (by kernel_rfl) (by kernel_rfl) (fun _ _ _ h => h) (Or.inl ⟨by rfl, ?hy18⟩) (by assumption) ?rr18
                            case hy18 => intro w hSw; (try dsimp only at hSw); go_simp; all_goals with_reducible rfl
                            try simp only [Act.put, List.setIfInBounds_toArray, List.set_cons_zero, List.set_cons_succ]
                            refine wpAnyH_take (i := 2) (oi := { dst := some 99, op := Go.Op.load 24 (Go.Operand.tmp 5), type := 24, pos := "ref.go:103", after := #[], guard := none }) (v := ?vv19) rfl (by kernel_rfl) (by kernel_rfl) (by kernel_rfl) (fun _ _ _ h => h) (Or.inl ⟨by rfl, ?hy19⟩) (by assumption) ?rr19
                            case hy19 => intro w hSw; (try dsimp only at hSw); go_simp; all_goals with_reducible rfl
                            try simp only [Act.put, List.setIfInBounds_toArray, List.set_cons_zero, List.set_cons_succ]
                            refine wpAnyH_take (i := 3) (oi := { dst := some 100, op := Go.Op.fieldAddr 41 (Go.Operand.tmp 8) 2, type := 0, pos := "ref.go:103", after := #[], guard := none }) (v := ?vv20) rfl (by kernel_rfl) (by kernel_rfl) (by kernel_rfl) (fun _ _ _ h => h) (Or.inl ⟨by rfl, ?hy20⟩) (by assumption) ?rr20
                            case hy20 => intro w hSw; (try dsimp only at hSw); go_simp; all_goals with_reducible rfl
                            try simp only [Act.put, List.setIfInBounds_toArray, List.set_cons_zero, List.set_cons_succ]
                            refine wpAnyH_take (i := 4) (oi := { dst := some 101, op := Go.Op.load 34 (Go.Operand.tmp 100), type := 34, pos := "ref.go:103", after := #[{ on := 3, ground := Go.Ground.data }], guard := none }) (v := ?vv21) rfl (by kernel_rfl) (by kernel_rfl) (by kernel_rfl) (fun _ _ _ h => h) (Or.inl ⟨by rfl, ?hy21⟩) (by assumption) ?rr21
                            case hy21 => intro w hSw; (try dsimp only at hSw); go_simp; all_goals with_reducible rfl
                            try simp only [Act.put, List.setIfInBounds_toArray, List.set_cons_zero, List.set_cons_succ]
                            refine wpAnyH_take (i := 5) (oi := { dst := some 102, op := Go.Op.move (Go.Operand.tmp 10), type := 3, pos := "ref.go:103", after := #[], guard := none }) (v := ?vv22) rfl (by kernel_rfl) (by kernel_rfl) (by kernel_rfl) (fun _ _ _ h => h) (Or.inl ⟨by rfl, ?hy22⟩) (by assumption) ?rr22
                            case hy22 => intro w hSw; (try dsimp only at hSw); go_simp; all_goals with_reducible rfl
                            try simp only [Act.put, List.setIfInBounds_toArray, List.set_cons_zero, List.set_cons_succ]
                            refine wpAnyH_take (i := 6) (oi := { dst := some 103, op := Go.Op.indexAddr 34 (Go.Operand.tmp 101) (Go.Operand.tmp 102), type := 0, pos := "ref.go:103", after := #[{ on := 4, ground := Go.Ground.data }, { on := 5, ground := Go.Ground.data }], guard := none }) (v := ?vv23) rfl (by kernel_rfl) (by kernel_rfl) (by kernel_rfl) (fun _ _ _ h => h) (Or.inl ⟨by rfl, ?hy23⟩) (by assumption) ?rr23
                            case hy23 => intro w hSw; (try dsimp only at hSw); go_simp; all_goals with_reducible rfl
                            try simp only [Act.put, List.setIfInBounds_toArray, List.set_cons_zero, List.set_cons_succ]
                            refine wpAnyH_take (i := 7) (oi := { dst := some 104, op := Go.Op.load 3 (Go.Operand.tmp 103), type := 3, pos := "ref.go:103", after := #[{ on := 6, ground := Go.Ground.data }], guard := none }) (v := ?vv24) rfl (by kernel_rfl) (by kernel_rfl) (by kernel_rfl) (fun _ _ _ h => h) (Or.inl ⟨by rfl, ?hy24⟩) (by assumption) ?rr24
                            case hy24 => intro w hSw; (try dsimp only at hSw); go_simp; all_goals with_reducible rfl
                            try simp only [Act.put, List.setIfInBounds_toArray, List.set_cons_zero, List.set_cons_succ]
                            refine wpAnyH_take (i := 8) (oi := { dst := some 105, op := Go.Op.fieldAddr 41 (Go.Operand.tmp 9) 2, type := 0, pos := "ref.go:103", after := #[], guard := none }) (v := ?vv25) rfl (by kernel_rfl) (by kernel_rfl) (by kernel_rfl) (fun _ _ _ h => h) (Or.inl ⟨by rfl, ?hy25⟩) (by assumption) ?rr25
                            case hy25 => intro w hSw; (try dsimp only at hSw); go_simp; all_goals with_reducible rfl
                            try simp only [Act.put, List.setIfInBounds_toArray, List.set_cons_zero, List.set_cons_succ]
                            refine wpAnyH_take (i := 9) (oi := { dst := some 106, op := Go.Op.load 34 (Go.Operand.tmp 105), type := 34, pos := "ref.go:103", after := #[{ on := 8, ground := Go.Ground.data }], guard := none }) (v := ?vv26) rfl (by kernel_rfl) (by kernel_rfl) (by kernel_rfl) (fun _ _ _ h => h) (Or.inl ⟨by rfl, ?hy26⟩) (by assumption) ?rr26
                            case hy26 => intro w hSw; (try dsimp only at hSw); go_simp; all_goals with_reducible rfl
                            try simp only [Act.put, List.setIfInBounds_toArray, List.set_cons_zero, List.set_cons_succ]
                            refine wpAnyH_take (i := 10) (oi := { dst := some 107, op := Go.Op.move (Go.Operand.tmp 10), type := 3, pos := "ref.go:103", after := #[], guard := none }) (v := ?vv27) rfl (by kernel_rfl) (by kernel_rfl) (by kernel_rfl) (fun _ _ _ h => h) (Or.inl ⟨by rfl, ?hy27⟩) (by assumption) ?rr27
                            case hy27 => intro w hSw; (try dsimp only at hSw); go_simp; all_goals with_reducible rfl
                            try simp only [Act.put, List.setIfInBounds_toArray, List.set_cons_zero, List.set_cons_succ]
                            refine wpAnyH_take (i := 11) (oi := { dst := some 108, op := Go.Op.indexAddr 34 (Go.Operand.tmp 106) (Go.Operand.tmp 107), type := 0, pos := "ref.go:103", after := #[{ on := 9, ground := Go.Ground.data }, { on := 10, ground := Go.Ground.data }], guard := none }) (v := ?vv28) rfl (by kernel_rfl) (by kernel_rfl) (by kernel_rfl) (fun _ _ _ h => h) (Or.inl ⟨by rfl, ?hy28⟩) (by assumption) ?rr28
                            case hy28 => intro w hSw; (try dsimp only at hSw); go_simp; all_goals with_reducible rfl
                            try simp only [Act.put, List.setIfInBounds_toArray, List.set_cons_zero, List.set_cons_succ]
                            refine wpAnyH_take (i := 12) (oi := { dst := some 109, op := Go.Op.load 3 (Go.Operand.tmp 108), type := 3, pos := "ref.go:103", after := #[{ on := 11, ground := Go.Ground.data }], guard := none }) (v := ?vv29) rfl (by kernel_rfl) (by kernel_rfl) (by kernel_rfl) (fun _ _ _ h => h) (Or.inl ⟨by rfl, ?hy29⟩) (by assumption) ?rr29
                            case hy29 => intro w hSw; (try dsimp only at hSw); go_simp; all_goals with_reducible rfl
                            try simp only [Act.put, List.setIfInBounds_toArray, List.set_cons_zero, List.set_cons_succ]
                            refine wpAnyH_ready (rs := [13]) (by kernel_rfl) (by simp) ?_
                            refine AllReadyH.cons (i := 13) (o := { dst := some 110, op := Go.Op.call { callee := Go.Callee.value (Go.Operand.func 62), args := #[Go.Operand.tmp 97, Go.Operand.tmp 98, Go.Operand.tmp 99, Go.Operand.tmp 104, Go.Operand.tmp 109], argTypes := #[78, 24, 24, 3, 3] }, type := 4, pos := "ref.go:103", after := #[{ on := 0, ground := Go.Ground.data }, { on := 1, ground := Go.Ground.data }, { on := 2, ground := Go.Ground.data }, { on := 7, ground := Go.Ground.data }, { on := 12, ground := Go.Ground.data }], guard := none }) rfl (fun K hK => ?_) AllReadyH.nil
                            go_simp
                            go_at_call 62
                            refine (pair_any a b s3 v u base pb (some ⟨tb, 0, none⟩) (some ⟨fb, 0, none⟩) (some ⟨ba, oa, none⟩) (some ⟨bb, ob, none⟩) ct cf c d _ (HP3.out.later (Below.refl _ _).drew) HG3.out ha256 hb256).mono ?_
                            rintro e w7 ⟨ht7, hr7⟩
                            rw [hpv] at hr7
                            rcases hr7 with ⟨_, g, -⟩ | ⟨-, rfl⟩
                            · cases g
                            have HT7 := hid (HT3.out.trans ((Turn2.of_below (Below.refl _ wi).drew _ _).trans ht7))
                            refine hK.out _ _ ?_ (fun hH1 => ?_)
                            · exact ⟨ht7.cell hH0.1 HNT.out.1 HNF.out.1, ht7.cell hH0.2.1 HNT.out.1 HNF.out.1, ht7.cell hH0.2.2.1 HNT.out.1 HNF.out.1, ht7.cell hH0.2.2.2.1 HNT.out.2 HNF.out.2, ht7.cell hH0.2.2.2.2.1 HNT.out.2 HNF.out.2, ht7.cell hH0.2.2.2.2.2.1 HNT.out.2 HNF.out.2, ht7.cell hH0.2.2.2.2.2.2.1 (fun ad e => by cases e; show N1 ≠ tb; omega) (fun ad e => by cases e; show N1 ≠ fb; omega), ht7.cell hH0.2.2.2.2.2.2.2.1 (fun ad e => by cases e; show N2 ≠ tb; omega) (fun ad e => by cases e; show N2 ≠ fb; omega), ht7.cell hH0.2.2.2.2.2.2.2.2.1 (fun ad e => by cases e; exact n0) (fun ad e => by cases e; exact n1), ht7.cell hH0.2.2.2.2.2.2.2.2.2 (fun ad e => by cases e; exact n2) (fun ad e => by cases e; exact n3)⟩
                            clear hK K
                            try simp only [Act.put, List.setIfInBounds_toArray, List.set_cons_zero, List.set_cons_succ]
                            clear ht7
                            refine wpAnyH_take (i := 14) (oi := { dst := some 111, op := Go.Op.unOp Go.UnOp.not 4 (Go.Operand.tmp 110), type := 4, pos := "ref.go:103", after := #[{ on := 13, ground := Go.Ground.data }], guard := none }) (v := ?vv30) rfl (by kernel_rfl) (by kernel_rfl) (by kernel_rfl) (fun _ _ _ h => h) (Or.inl ⟨by rfl, ?hy30⟩) (by assumption) ?rr30
                            case hy30 => intro w hSw; (try dsimp only at hSw); go_simp; all_goals with_reducible rfl
                            try simp only [Act.put, List.setIfInBounds_toArray, List.set_cons_zero, List.set_cons_succ]
                            refine wpAnyH_done (by kernel_rfl) ?_ _
                            go_wp2_with fail
                            go_ret
                            exact ⟨HT7.out, .inr ⟨HNN.out, rfl⟩⟩
                          · rename_i s4
                            have HG4 := hid (prV_goes HG3.out hpv).1.good
                            have HTK4 : Hid (prL a b s2 (x.slots.take (j + 1)) (y.slots.take (j + 1)) = some s4) := by show _ = _; rw [HTK3.out]; exact hpv
                            go_wp2_with fail
                            refine wp_region_held_drew (S := (fun w' => w'.cell? ⟨w.heap.size, 0, none⟩ = some (.slice (some ⟨ba, oa, none⟩) a.objs.length c) ∧ w'.cell? ⟨w.heap.size, 1, none⟩ = some (.int .i64 a.cap) ∧ w'.cell? ⟨w.heap.size, 2, none⟩ = some (.int .i64 a.last) ∧ w'.cell? ⟨w.heap.size + 1, 0, none⟩ = some (.slice (some ⟨bb, ob, none⟩) b.objs.length d) ∧ w'.cell? ⟨w.heap.size + 1, 1, none⟩ = some (.int .i64 b.cap) ∧ w'.cell? ⟨w.heap.size + 1, 2, none⟩ = some (.int .i64 b.last) ∧ w'.cell? ⟨N1, 2, none⟩ = some (.slice (some ⟨bs, os, none⟩) x.slots.length ds) ∧ w'.cell? ⟨N2, 2, none⟩ = some (.slice (some ⟨bt, ot, none⟩) y.slots.length dt) ∧ w'.cell? ⟨bs, os + j, none⟩ = some (.int .i64 v) ∧ w'.cell? ⟨bt, ot + j, none⟩ = some (.int .i64 u))) (by kernel_rfl) ?_ (fun hH0 => ?_)
                            · exact ⟨x0, x1, x2, y0, y1, y2, e2, f2, sc, uc⟩
                            refine wpAnyH_take (i := 0) (oi := { dst := some 97, op := Go.Op.move (Go.Operand.tmp 0), type := 78, pos := "ref.go:103", after := #[], guard := none }) (v := ?vv31) rfl (by kernel_rfl) (by kernel_rfl) (by kernel_rfl) (fun _ _ _ h => h) (Or.inl ⟨by rfl, ?hy31⟩) (by assumption) ?rr31
                            case hy31 => intro w hSw; (try dsimp only at hSw); go_simp; all_goals with_reducible rfl
                            try simp only [Act.put, List.setIfInBounds_toArray, List.set_cons_zero, List.set_cons_succ]
                            refine wpAnyH_take (i := 1) (oi := { dst := some 98, op := Go.Op.load 24 (Go.Operand.tmp 4), type := 24, pos := "ref.go:103", after := #[], guard := none }) (v := ?vv32) rfl (by kernel_rfl) (by kernel_rfl) (by kernel_rfl) (fun _ _ _ h => h) (Or.inl ⟨by rfl, ?hy32⟩) (by assumption) ?rr32
                            case hy32 => intro w hSw; (try dsimp only at hSw); go_simp; all_goals with_reducible rfl
                            try simp only [Act.put, List.setIfInBounds_toArray, List.set_cons_zero, List.set_cons_succ]
                            refine wpAnyH_take (i := 2) (oi := { dst := some 99, op := Go.Op.load 24 (Go.Operand.tmp 5), type := 24, pos := "ref.go:103", after := #[], guard := none }) (v := ?vv33) rfl (by kernel_rfl) (by kernel_rfl) (by kernel_rfl) (fun _ _ _ h => h) (Or.inl ⟨by rfl, ?hy33⟩) (by assumption) ?rr33
                            case hy33 => intro w hSw; (try dsimp only at hSw); go_simp; all_goals with_reducible rfl
                            try simp only [Act.put, List.setIfInBounds_toArray, List.set_cons_zero, List.set_cons_succ]
                            refine wpAnyH_take (i := 3) (oi := { dst := some 100, op := Go.Op.fieldAddr 41 (Go.Operand.tmp 8) 2, type := 0, pos := "ref.go:103", after := #[], guard := none }) (v := ?vv34) rfl (by kernel_rfl) (by kernel_rfl) (by kernel_rfl) (fun _ _ _ h => h) (Or.inl ⟨by rfl, ?hy34⟩) (by assumption) ?rr34
                            case hy34 => intro w hSw; (try dsimp only at hSw); go_simp; all_goals with_reducible rfl
                            try simp only [Act.put, List.setIfInBounds_toArray, List.set_cons_zero, List.set_cons_succ]
                            refine wpAnyH_take (i := 4) (oi := { dst := some 101, op := Go.Op.load 34 (Go.Operand.tmp 100), type := 34, pos := "ref.go:103", after := #[{ on := 3, ground := Go.Ground.data }], guard := none }) (v := ?vv35) rfl (by kernel_rfl) (by kernel_rfl) (by kernel_rfl) (fun _ _ _ h => h) (Or.inl ⟨by rfl, ?hy35⟩) (by assumption) ?rr35
                            case hy35 => intro w hSw; (try dsimp only at hSw); go_simp; all_goals with_reducible rfl
                            try simp only [Act.put, List.setIfInBounds_toArray, List.set_cons_zero, List.set_cons_succ]
                            refine wpAnyH_take (i := 5) (oi := { dst := some 102, op := Go.Op.move (Go.Operand.tmp 10), type := 3, pos := "ref.go:103", after := #[], guard := none }) (v := ?vv36) rfl (by kernel_rfl) (by kernel_rfl) (by kernel_rfl) (fun _ _ _ h => h) (Or.inl ⟨by rfl, ?hy36⟩) (by assumption) ?rr36
                            case hy36 => intro w hSw; (try dsimp only at hSw); go_simp; all_goals with_reducible rfl
                            try simp only [Act.put, List.setIfInBounds_toArray, List.set_cons_zero, List.set_cons_succ]
                            refine wpAnyH_take (i := 6) (oi := { dst := some 103, op := Go.Op.indexAddr 34 (Go.Operand.tmp 101) (Go.Operand.tmp 102), type := 0, pos := "ref.go:103", after := #[{ on := 4, ground := Go.Ground.data }, { on := 5, ground := Go.Ground.data }], guard := none }) (v := ?vv37) rfl (by kernel_rfl) (by kernel_rfl) (by kernel_rfl) (fun _ _ _ h => h) (Or.inl ⟨by rfl, ?hy37⟩) (by assumption) ?rr37
                            case hy37 => intro w hSw; (try dsimp only at hSw); go_simp; all_goals with_reducible rfl
                            try simp only [Act.put, List.setIfInBounds_toArray, List.set_cons_zero, List.set_cons_succ]
                            refine wpAnyH_take (i := 7) (oi := { dst := some 104, op := Go.Op.load 3 (Go.Operand.tmp 103), type := 3, pos := "ref.go:103", after := #[{ on := 6, ground := Go.Ground.data }], guard := none }) (v := ?vv38) rfl (by kernel_rfl) (by kernel_rfl) (by kernel_rfl) (fun _ _ _ h => h) (Or.inl ⟨by rfl, ?hy38⟩) (by assumption) ?rr38
                            case hy38 => intro w hSw; (try dsimp only at hSw); go_simp; all_goals with_reducible rfl
                            try simp only [Act.put, List.setIfInBounds_toArray, List.set_cons_zero, List.set_cons_succ]
                            refine wpAnyH_take (i := 8) (oi := { dst := some 105, op := Go.Op.fieldAddr 41 (Go.Operand.tmp 9) 2, type := 0, pos := "ref.go:103", after := #[], guard := none }) (v := ?vv39) rfl (by kernel_rfl) (by kernel_rfl) (by kernel_rfl) (fun _ _ _ h => h) (Or.inl ⟨by rfl, ?hy39⟩) (by assumption) ?rr39
                            case hy39 => intro w hSw; (try dsimp only at hSw); go_simp; all_goals with_reducible rfl
                            try simp only [Act.put, List.setIfInBounds_toArray, List.set_cons_zero, List.set_cons_succ]
                            refine wpAnyH_take (i := 9) (oi := { dst := some 106, op := Go.Op.load 34 (Go.Operand.tmp 105), type := 34, pos := "ref.go:103", after := #[{ on := 8, ground := Go.Ground.data }], guard := none }) (v := ?vv40) rfl (by kernel_rfl) (by kernel_rfl) (by kernel_rfl) (fun _ _ _ h => h) (Or.inl ⟨by rfl, ?hy40⟩) (by assumption) ?rr40
                            case hy40 => intro w hSw; (try dsimp only at hSw); go_simp; all_goals with_reducible rfl
                            try simp only [Act.put, List.setIfInBounds_toArray, List.set_cons_zero, List.set_cons_succ]
                            refine wpAnyH_take (i := 10) (oi := { dst := some 107, op := Go.Op.move (Go.Operand.tmp 10), type := 3, pos := "ref.go:103", after := #[], guard := none }) (v := ?vv41) rfl (by kernel_rfl) (by kernel_rfl) (by kernel_rfl) (fun _ _ _ h => h) (Or.inl ⟨by rfl, ?hy41⟩) (by assumption) ?rr41
                            case hy41 => intro w hSw; (try dsimp only at hSw); go_simp; all_goals with_reducible rfl
                            try simp only [Act.put, List.setIfInBounds_toArray, List.set_cons_zero, List.set_cons_succ]
                            refine wpAnyH_take (i := 11) (oi := { dst := some 108, op := Go.Op.indexAddr 34 (Go.Operand.tmp 106) (Go.Operand.tmp 107), type := 0, pos := "ref.go:103", after := #[{ on := 9, ground := Go.Ground.data }, { on := 10, ground := Go.Ground.data }], guard := none }) (v := ?vv42) rfl (by kernel_rfl) (by kernel_rfl) (by kernel_rfl) (fun _ _ _ h => h) (Or.inl ⟨by rfl, ?hy42⟩) (by assumption) ?rr42
                            case hy42 => intro w hSw; (try dsimp only at hSw); go_simp; all_goals with_reducible rfl
                            try simp only [Act.put, List.setIfInBounds_toArray, List.set_cons_zero, List.set_cons_succ]
                            refine wpAnyH_take (i := 12) (oi := { dst := some 109, op := Go.Op.load 3 (Go.Operand.tmp 108), type := 3, pos := "ref.go:103", after := #[{ on := 11, ground := Go.Ground.data }], guard := none }) (v := ?vv43) rfl (by kernel_rfl) (by kernel_rfl) (by kernel_rfl) (fun _ _ _ h => h) (Or.inl ⟨by rfl, ?hy43⟩) (by assumption) ?rr43
                            case hy43 => intro w hSw; (try dsimp only at hSw); go_simp; all_goals with_reducible rfl
                            try simp only [Act.put, List.setIfInBounds_toArray, List.set_cons_zero, List.set_cons_succ]
                            refine wpAnyH_ready (rs := [13]) (by kernel_rfl) (by simp) ?_
                            refine AllReadyH.cons (i := 13) (o := { dst := some 110, op := Go.Op.call { callee := Go.Callee.value (Go.Operand.func 62), args := #[Go.Operand.tmp 97, Go.Operand.tmp 98, Go.Operand.tmp 99, Go.Operand.tmp 104, Go.Operand.tmp 109], argTypes := #[78, 24, 24, 3, 3] }, type := 4, pos := "ref.go:103", after := #[{ on := 0, ground := Go.Ground.data }, { on := 1, ground := Go.Ground.data }, { on := 2, ground := Go.Ground.data }, { on := 7, ground := Go.Ground.data }, { on := 12, ground := Go.Ground.data }], guard := none }) rfl (fun K hK => ?_) AllReadyH.nil
                            go_simp
                            go_at_call 62
                            refine (pair_any a b s3 v u base pb (some ⟨tb, 0, none⟩) (some ⟨fb, 0, none⟩) (some ⟨ba, oa, none⟩) (some ⟨bb, ob, none⟩) ct cf c d _ (HP3.out.later (Below.refl _ _).drew) HG3.out ha256 hb256).mono ?_
                            rintro e w7 ⟨ht7, hr7⟩
                            rw [hpv] at hr7
                            rcases hr7 with ⟨_, g, rfl, hp7⟩ | ⟨g, -⟩
                            case inr => cases g
                            obtain rfl := Option.some.inj g
                            have HP8 := hid hp7
                            clear hp7 g
                            have HT7 := hid (HT3.out.trans ((Turn2.of_below (Below.refl _ wi).drew _ _).trans ht7))
                            have HXA8 := hid (ht7.lies HXA.out.drew HNT.out.1 HNF.out.1)
                            have HYA8 := hid (ht7.lies HYA.out.drew HNT.out.2 HNF.out.2)
                            have HLX8 := hid (ht7.lies HLX.out.drew (fun ad e => by cases e; show N1 ≠ tb; omega) (fun ad e => by cases e; show N1 ≠ fb; omega))
                            have HLY8 := hid (ht7.lies HLY.out.drew (fun ad e => by cases e; show N2 ≠ tb; omega) (fun ad e => by cases e; show N2 ≠ fb; omega))
                            refine hK.out _ _ ?_ (fun hH1 => ?_)
                            · exact ⟨ht7.cell hH0.1 HNT.out.1 HNF.out.1, ht7.cell hH0.2.1 HNT.out.1 HNF.out.1, ht7.cell hH0.2.2.1 HNT.out.1 HNF.out.1, ht7.cell hH0.2.2.2.1 HNT.out.2 HNF.out.2, ht7.cell hH0.2.2.2.2.1 HNT.out.2 HNF.out.2, ht7.cell hH0.2.2.2.2.2.1 HNT.out.2 HNF.out.2, ht7.cell hH0.2.2.2.2.2.2.1 (fun ad e => by cases e; show N1 ≠ tb; omega) (fun ad e => by cases e; show N1 ≠ fb; omega), ht7.cell hH0.2.2.2.2.2.2.2.1 (fun ad e => by cases e; show N2 ≠ tb; omega) (fun ad e => by cases e; show N2 ≠ fb; omega), ht7.cell hH0.2.2.2.2.2.2.2.2.1 (fun ad e => by cases e; exact n0) (fun ad e => by cases e; exact n1), ht7.cell hH0.2.2.2.2.2.2.2.2.2 (fun ad e => by cases e; exact n2) (fun ad e => by cases e; exact n3)⟩
                            clear hK K
                            try simp only [Act.put, List.setIfInBounds_toArray, List.set_cons_zero, List.set_cons_succ]
                            clear ht7
                            refine wpAnyH_take (i := 14) (oi := { dst := some 111, op := Go.Op.unOp Go.UnOp.not 4 (Go.Operand.tmp 110), type := 4, pos := "ref.go:103", after := #[{ on := 13, ground := Go.Ground.data }], guard := none }) (v := ?vv44) rfl (by kernel_rfl) (by kernel_rfl) (by kernel_rfl) (fun _ _ _ h => h) (Or.inl ⟨by rfl, ?hy44⟩) (by assumption) ?rr44
                            case hy44 => intro w hSw; (try dsimp only at hSw); go_simp; all_goals with_reducible rfl
                            try simp only [Act.put, List.setIfInBounds_toArray, List.set_cons_zero, List.set_cons_succ]
                            refine wpAnyH_done (by kernel_rfl) ?_ _
                            go_wp2_with fail
                            go_roundw
                            case rel => exact ⟨j + 1, s4, by omega, by go_num, HTK4.out, HG4.out, HP8.out, HT7.out, HXA8.out, HYA8.out, HLX8.out, HLY8.out⟩
                            case measure => simp [intOf]; omega
                        · have hje : j = x.slots.length := by omega
                          have HDN : Hid (prF a b (i + 1) s = some s3) := by
                            show _ = _
                            rw [prF_at HPF.out, HSTEP.out]
                            have := HPL.out
                            rw [hje, List.take_length, Q4.out, List.take_length] at this
                            exact this
                          clear hje
                          go_wp2_with fail
                          go_roundw
                          case rel => exact ⟨i + 1, s3, by omega, by go_num, HDN.out, HG3.out, HP3.out, HT3.out, HXA.out, HYA.out⟩
                          case measure => simp [intOf]; omega
                  · have t4 : ((x.slots.length : Int) != (y.slots.length : Int)) = true := by simp; omega
                    have HNN : Hid (prF a b a.objs.length s = none) := HFN.out (prO_no HTI.out HX1.out HY1.out HTK.out fun g => q4 g.2.2.2.2)
                    clear q4
                    go_wp2_with fail
                    go_ret
                    exact ⟨HTW.out, .inr ⟨HNN.out, rfl⟩⟩
                · have t3 : (x.hash != y.hash) = true := by simpa using q3
                  have HNN : Hid (prF a b a.objs.length s = none) := HFN.out (prO_no HTI.out HX1.out HY1.out HTK.out fun g => q3 g.2.2.2.1)
                  clear q3
                  go_wp2_with fail
                  go_ret
                  exact ⟨HTW.out, .inr ⟨HNN.out, rfl⟩⟩
              · have t2 : (x.bits != y.bits) = true := by simpa using q2
                have HNN : Hid (prF a b a.objs.length s = none) := HFN.out (prO_no HTI.out HX1.out HY1.out HTK.out fun g => q2 g.2.2.1)
                clear q2
                go_wp2_with fail
                go_ret
                exact ⟨HTW.out, .inr ⟨HNN.out, rfl⟩⟩
            · have t1 : ¬ x.text.toList = y.text.toList := fun e => q1 (text_inj2 e)
              have HNN : Hid (prF a b a.objs.length s = none) := HFN.out (prO_no HTI.out HX1.out HY1.out HTK.out fun g => q1 g.2.1)
              clear q1
              go_wp2_with fail
              go_ret
              exact ⟨HTW.out, .inr ⟨HNN.out, rfl⟩⟩
          · have t0 : (x.kind != y.kind) = true := by simpa using q0
            have HNN : Hid (prF a b a.objs.length s = none) := HFN.out (prO_no HTI.out HX1.out HY1.out HTK.out fun g => q0 g.1)
            clear q0
            go_wp2_with fail
            go_ret
            exact ⟨HTW.out, .inr ⟨HNN.out, rfl⟩⟩
        · go_simp
          refine hK.out _ _ ?_ (fun hH1 => ?_)
          · exact ⟨cell_old hH0.1, cell_old hH0.2.1, cell_old hH0.2.2.1, cell_old hH0.2.2.2.1, cell_old hH0.2.2.2.2.1, cell_old hH0.2.2.2.2.2.1, cell_old hH0.2.2.2.2.2.2.1, cell_old hH0.2.2.2.2.2.2.2.1, cell_old hH0.2.2.2.2.2.2.2.2.1, cell_old hH0.2.2.2.2.2.2.2.2.2.1, cell_old hH0.2.2.2.2.2.2.2.2.2.2.1, cell_old hH0.2.2.2.2.2.2.2.2.2.2.2.1, cell_old hH0.2.2.2.2.2.2.2.2.2.2.2.2.1, cell_old hH0.2.2.2.2.2.2.2.2.2.2.2.2.2.1, cell_old hH0.2.2.2.2.2.2.2.2.2.2.2.2.2.2.1, cell_old hH0.2.2.2.2.2.2.2.2.2.2.2.2.2.2.2⟩
          clear hK K
          try simp only [Act.put, List.setIfInBounds_toArray, List.set_cons_zero, List.set_cons_succ]
          refine wpAnyH_ready (rs := [16]) (by kernel_rfl) (by simp) ?_
          refine AllReadyH.cons (i := 16) (o := { dst := some 8, op := Go.Op.alloc 41, type := 0, pos := "ref.go:98", after := #[], guard := none }) rfl (fun K hK => ?_) AllReadyH.nil
          go_simp
          refine hK.out _ _ ?_ (fun hH2 => ?_)
          · exact ⟨cell_old hH1.1, cell_old hH1.2.1, cell_old hH1.2.2.1, cell_old hH1.2.2.2.1, cell_old hH1.2.2.2.2.1, cell_old hH1.2.2.2.2.2.1, cell_old hH1.2.2.2.2.2.2.1, cell_old hH1.2.2.2.2.2.2.2.1, cell_old hH1.2.2.2.2.2.2.2.2.1, cell_old hH1.2.2.2.2.2.2.2.2.2.1, cell_old hH1.2.2.2.2.2.2.2.2.2.2.1, cell_old hH1.2.2.2.2.2.2.2.2.2.2.2.1, cell_old hH1.2.2.2.2.2.2.2.2.2.2.2.2.1, cell_old hH1.2.2.2.2.2.2.2.2.2.2.2.2.2.1, cell_old hH1.2.2.2.2.2.2.2.2.2.2.2.2.2.2.1, cell_old hH1.2.2.2.2.2.2.2.2.2.2.2.2.2.2.2⟩
          clear hK K
          try simp only [Act.put, List.setIfInBounds_toArray, List.set_cons_zero, List.set_cons_succ]
          refine wpAnyH_ready (rs := [18]) (by kernel_rfl) (by simp) ?_
          refine AllReadyH.cons (i := 18) (o := { dst := none, op := Go.Op.store 41 (Go.Operand.tmp 8) (Go.Operand.tmp 32), type := 0, pos := "ref.go:98", after := #[{ on := 16, ground := Go.Ground.data }, { on := 4, ground := Go.Ground.data }, { on := 0, ground := Go.Ground.phase }, { on := 1, ground := Go.Ground.phase }, { on := 2, ground := Go.Ground.phase }, { on := 3, ground := Go.Ground.phase }, { on := 4, ground := Go.Ground.phase }, { on := 5, ground := Go.Ground.textOnly Go.Departure.lateStores }, { on := 6, ground := Go.Ground.textOnly Go.Departure.lateStores }, { on := 7, ground := Go.Ground.textOnly Go.Departure.lateStores }, { on := 8, ground := Go.Ground.textOnly Go.Departure.lateStores }, { on := 9, ground := Go.Ground.textOnly Go.Departure.lateStores }, { on := 10, ground := Go.Ground.textOnly Go.Departure.lateStores }, { on := 11, ground := Go.Ground.textOnly Go.Departure.lateStores }, { on := 12, ground := Go.Ground.textOnly Go.Departure.lateStores }, { on := 13, ground := Go.Ground.textOnly Go.Departure.lateStores }, { on := 14, ground := Go.Ground.textOnly Go.Departure.lateStores }, { on := 15, ground := Go.Ground.textOnly Go.Departure.lateStores }, { on := 16, ground := Go.Ground.phase }, { on := 17, ground := Go.Ground.phase }], guard := none }) rfl (fun K hK => ?_) AllReadyH.nil
          go_simp
          refine hK.out _ _ ?_ (fun hH3 => ?_)
          · exact ⟨two_old2 x0, two_old2 y0, two_old2 t0, two_old2 tc, two_old2 p0, two_old2 p1, two_old2 p2, two_old2 p3, two_old2 p4, two_old2 p5, two_old2 q0, two_old2 q1, two_old2 q2, two_old2 q3, two_old2 q4, two_old2 q5⟩
          clear hK K
          try simp only [Act.put, List.setIfInBounds_toArray, List.set_cons_zero, List.set_cons_succ]
          refine wpAnyH_ready (rs := [19]) (by kernel_rfl) (by simp) ?_
          refine AllReadyH.cons (i := 19) (o := { dst := none, op := Go.Op.store 41 (Go.Operand.tmp 9) (Go.Operand.tmp 43), type := 0, pos := "ref.go:98", after := #[{ on := 17, ground := Go.Ground.data }, { on := 15, ground := Go.Ground.data }, { on := 18, ground := Go.Ground.chain }, { on := 0, ground := Go.Ground.phase }, { on := 1, ground := Go.Ground.phase }, { on := 2, ground := Go.Ground.phase }, { on := 3, ground := Go.Ground.phase }, { on := 4, ground := Go.Ground.phase }, { on := 5, ground := Go.Ground.phase }, { on := 6, ground := Go.Ground.phase }, { on := 7, ground := Go.Ground.phase }, { on := 8, ground := Go.Ground.phase }, { on := 9, ground := Go.Ground.phase }, { on := 10, ground := Go.Ground.phase }, { on := 11, ground := Go.Ground.phase }, { on := 12, ground := Go.Ground.phase }, { on := 13, ground := Go.Ground.phase }, { on := 14, ground := Go.Ground.phase }, { on := 15, ground := Go.Ground.phase }, { on := 16, ground := Go.Ground.phase }, { on := 17, ground := Go.Ground.phase }, { on := 18, ground := Go.Ground.phase }], guard := none }) rfl (fun K hK => ?_) AllReadyH.nil
          go_simp
          refine hK.out _ _ ?_ (fun hH4 => ?_)
          · exact ⟨two_old2 x0, two_old2 y0, two_old2 t0, two_old2 tc, two_old2 p0, two_old2 p1, two_old2 p2, two_old2 p3, two_old2 p4, two_old2 p5, two_old2 q0, two_old2 q1, two_old2 q2, two_old2 q3, two_old2 q4, two_old2 q5⟩
          clear hK K
          try simp only [Act.put, List.setIfInBounds_toArray, List.set_cons_zero, List.set_cons_succ]
          refine wpAnyH_done (by kernel_rfl) ?_ _
          obtain ⟨W, hW⟩ : ∃ W, W = ((wo.alloc (.cells #[.int .i64 y.cls, .int .i64 y.kind, .slice S2 y.slots.length dt, .string y.text, .int .i64 y.bits, .int .i64 y.hash] 41)).alloc (.cells #[.int .i64 x.cls, .int .i64 x.kind, .slice S x.slots.length ds, .string x.text, .int .i64 x.bits, .int .i64 x.hash] 41)).drew := ⟨_, rfl⟩
          have hB : Below wo.heap.size wo W := by rw [hW]; exact ((below_alloc wo _).alloc (by simp) _).drew
          have hL1 : Lies W wo.heap.size 41 #[.int .i64 y.cls, .int .i64 y.kind, .slice S2 y.slots.length dt, .string y.text, .int .i64 y.bits, .int .i64 y.hash] := by rw [hW]; exact ((Lies.new wo 41 _).alloc _).drew
          have hL2 : Lies W (wo.heap.size + 1) 41 #[.int .i64 x.cls, .int .i64 x.kind, .slice S x.slots.length ds, .string x.text, .int .i64 x.bits, .int .i64 x.hash] := by
            rw [hW]
            have := (Lies.new (wo.alloc (.cells #[.int .i64 y.cls, .int .i64 y.kind, .slice S2 y.slots.length dt, .string y.text, .int .i64 y.bits, .int .i64 y.hash] 41)) 41 #[.int .i64 x.cls, .int .i64 x.kind, .slice S x.slots.length ds, .string x.text, .int .i64 x.bits, .int .i64 x.hash]).drew
            simpa using this
          rw [← hW]
          obtain ⟨N1, hN1⟩ : ∃ n, n = wo.heap.size + 1 := ⟨_, rfl⟩
          rw [← hN1]
          rw [← hN1] at hL2
          obtain ⟨N2, hN2⟩ : ∃ n, n = wo.heap.size := ⟨_, rfl⟩
          rw [← hN2]
          rw [← hN2] at hL1
          have hlo1 : wo.heap.size ≤ N1 := by omega
          have hlo2 : wo.heap.size ≤ N2 := by omega
          have HLX := hid hL2
          have HLY := hid hL1
          have HB := hid hB
          clear hW hB hL1 hL2 hN1 hN2 x0 y0 t0 tc p0 q0 p1 q1 p2 q2 p3 q3 p4 q4 p5 q5
          have HTW := hid (HT.out.trans (.of_below HB.out _ _))
          have HXA := hid (HX.out.later HB.out)
          have HYA := hid (HY.out.later HB.out)
          have HPW := hid (HP.out.later HB.out)
          have e0 := HLX.out.cell 0
          have e1 := HLX.out.cell 1
          have e2 := HLX.out.cell 2
          have e3 := HLX.out.cell 3
          have e4 := HLX.out.cell 4
          have e5 := HLX.out.cell 5
          simp only [List.getElem?_toArray, List.getElem?_cons_zero, List.getElem?_cons_succ] at e0 e1 e2 e3 e4 e5
          have f0 := HLY.out.cell 0
          have f1 := HLY.out.cell 1
          have f2 := HLY.out.cell 2
          have f3 := HLY.out.cell 3
          have f4 := HLY.out.cell 4
          have f5 := HLY.out.cell 5
          simp only [List.getElem?_toArray, List.getElem?_cons_zero, List.getElem?_cons_succ] at f0 f1 f2 f3 f4 f5
          have x0 := HXA.out.cell 0
          have x1 := HXA.out.cell 1
          have x2 := HXA.out.cell 2
          simp only [List.getElem?_toArray, List.getElem?_cons_zero, List.getElem?_cons_succ] at x0 x1 x2
          have y0 := HYA.out.cell 0
          have y1 := HYA.out.cell 1
          have y2 := HYA.out.cell 2
          simp only [List.getElem?_toArray, List.getElem?_cons_zero, List.getElem?_cons_succ] at y0 y1 y2
          by_cases q0 : x.kind = y.kind
          · have t0 : (x.kind != y.kind) = false := by simp [q0]
            have Q0 := hid q0
            clear q0
            by_cases q1 : x.text = y.text
            · have t1 : x.text.toList = y.text.toList := by rw [q1]
              have Q1 := hid q1
              clear q1
              by_cases q2 : x.bits = y.bits
              · have t2 : (x.bits != y.bits) = false := by simp [q2]
                have Q2 := hid q2
                clear q2
                by_cases q3 : x.hash = y.hash
                · have t3 : (x.hash != y.hash) = false := by simp [q3]
                  have Q3 := hid q3
                  clear q3
                  by_cases q4 : x.slots.length = y.slots.length
                  · have t4 : ((x.slots.length : Int) != (y.slots.length : Int)) = false := by simp [q4]
                    have Q4 := hid q4
                    clear q4
                    have HAL : Hid (alike x y) := ⟨Q0.out, Q1.out, Q2.out, Q3.out, Q4.out⟩
                    have HYES := hid (prO_yes HTI.out HX1.out HY1.out HTK.out HAL.out)
                    cases hpv : prV a b s1 x.cls y.cls
                    · have HNN : Hid (prF a b a.objs.length s = none) := HFN.out (by rw [HYES.out, hpv]; rfl)
                      go_wp2_with fail
                      clear t0 t1 t2 t3 t4
                      refine (pair_any a b s1 x.cls y.cls base pb (some ⟨tb, 0, none⟩) (some ⟨fb, 0, none⟩) (some ⟨ba, oa, none⟩) (some ⟨bb, ob, none⟩) ct cf c d W HPW.out HG.out ha256 hb256).mono ?_
                      rintro e w7 ⟨ht7, hr7⟩
                      rw [hpv] at hr7
                      rcases hr7 with ⟨_, g, -⟩ | ⟨-, rfl⟩
                      · cases g
                      have HT7 := hid (HTW.out.trans ht7)
                      clear ht7
                      go_wp2_with fail
                      go_ret
                      exact ⟨HT7.out, .inr ⟨HNN.out, rfl⟩⟩
                    · rename_i s2
                      have HG2 := hid (prV_goes HG.out hpv).1.good
                      have HSTEP : Hid (prO a b s1 i = prL a b s2 x.slots y.slots) := by show _ = _; rw [HYES.out, hpv]; rfl
                      go_wp2_with fail
                      clear t0 t1 t2 t3 t4
                      refine (pair_any a b s1 x.cls y.cls base pb (some ⟨tb, 0, none⟩) (some ⟨fb, 0, none⟩) (some ⟨ba, oa, none⟩) (some ⟨bb, ob, none⟩) ct cf c d W HPW.out HG.out ha256 hb256).mono ?_
                      rintro e w7 ⟨ht7, hr7⟩
                      rw [hpv] at hr7
                      rcases hr7 with ⟨_, g, rfl, hp7⟩ | ⟨g, -⟩
                      case inr => cases g
                      obtain rfl := Option.some.inj g
                      have HT7 := hid (HTW.out.trans ht7)
                      have HP7 := hid hp7
                      have HXA7 := hid (ht7.lies HXA.out HNT.out.1 HNF.out.1)
                      have HYA7 := hid (ht7.lies HYA.out HNT.out.2 HNF.out.2)
                      have HLX7 := hid (ht7.lies HLX.out (fun ad e => by cases e; show N1 ≠ tb; omega) (fun ad e => by cases e; show N1 ≠ fb; omega))
                      have HLY7 := hid (ht7.lies HLY.out (fun ad e => by cases e; show N2 ≠ tb; omega) (fun ad e => by cases e; show N2 ≠ fb; omega))
                      clear ht7 hp7 g hpv x0 x1 x2 y0 y1 y2 e0 e1 e2 e3 e4 e5 f0 f1 f2 f3 f4 f5
                      go_wp2_with fail
                      go_loopw [10] (fun v wr => ∃ (j : Nat) (s3 : Pr), j ≤ x.slots.length ∧ v = .int .i64 j ∧ prL a b s2 (x.slots.take j) (y.slots.take j) = some s3 ∧ Good a b s3 ∧ PrW wr base pb (some ⟨tb, 0, none⟩) (some ⟨fb, 0, none⟩) ct cf s3 ∧ Turn2 w wr (some ⟨tb, 0, none⟩) (some ⟨fb, 0, none⟩) ∧ Lies wr w.heap.size 24 #[Value.slice (some ⟨ba, oa, none⟩) a.objs.length c, Value.int .i64 a.cap, Value.int .i64 a.last] ∧ Lies wr (w.heap.size + 1) 24 #[Value.slice (some ⟨bb, ob, none⟩) b.objs.length d, Value.int .i64 b.cap, Value.int .i64 b.last] ∧ Lies wr N1 41 #[.int .i64 x.cls, .int .i64 x.kind, .slice S x.slots.length ds, .string x.text, .int .i64 x.bits, .int .i64 x.hash] ∧ Lies wr N2 41 #[.int .i64 y.cls, .int .i64 y.kind, .slice S2 y.slots.length dt, .string y.text, .int .i64 y.bits, .int .i64 y.hash]) (fun v _ => x.slots.length - (intOf v).toNat)
                      case atStart => exact ⟨0, s2, Nat.zero_le _, rfl, rfl, HG2.out, HP7.out, HT7.out, HXA7.out, HYA7.out, HLX7.out, HLY7.out⟩
                      case round =>
                        clear HP7 HT7 HXA7 HYA7 HLX7 HLY7 HPW HTW HXA HYA HLX HLY
                        obtain ⟨j, s3, hj, rfl, hpl, hg3, hp3, ht3, hxa, hya, hlx, hly⟩ := hrel
                        rename World => wi
                        have HPL := hid hpl
                        have HG3 := hid hg3
                        have HP3 := hid hp3
                        have HT3 := hid ht3
                        have HXA := hid hxa
                        have HYA := hid hya
                        have HLX := hid hlx
                        have HLY := hid hly
                        clear hpl hg3 hp3 ht3 hxa hya hlx hly
                        have x0 := HXA.out.cell 0
                        have x1 := HXA.out.cell 1
                        have x2 := HXA.out.cell 2
                        simp only [List.getElem?_toArray, List.getElem?_cons_zero, List.getElem?_cons_succ] at x0 x1 x2
                        have y0 := HYA.out.cell 0
                        have y1 := HYA.out.cell 1
                        have y2 := HYA.out.cell 2
                        simp only [List.getElem?_toArray, List.getElem?_cons_zero, List.getElem?_cons_succ] at y0 y1 y2
                        have e2 := HLX.out.cell 2
                        have f2 := HLY.out.cell 2
                        simp only [List.getElem?_toArray, List.getElem?_cons_zero, List.getElem?_cons_succ] at e2 f2
                        by_cases hlt : j < x.slots.length
                        · have hlt2 : j < y.slots.length := by have := Q4.out; omega
                          obtain ⟨bs, os, rfl, hbs, hcs⟩ := HIX.out (by omega)
                          obtain ⟨bt, ot, rfl, hbt, hct⟩ := HIY.out (by omega)
                          have hbw : Below w0.heap.size w0 wi := HB0.out.trans (HT3.out.below HB0.out.size HLT.out HLF.out)
                          have sc := (hbw.cell (p := ⟨bs, os + j, none⟩) hbs).trans (hcs j _ (List.getElem?_eq_getElem hlt))
                          have uc := (hbw.cell (p := ⟨bt, ot + j, none⟩) hbt).trans (hct j _ (List.getElem?_eq_getElem hlt2))
                          have htk := prL_take (a := a) (b := b) (s := s2) Q4.out hlt
                          have hnone := @prL_none a b s2 x.slots y.slots (j + 1) Q4.out
                          obtain ⟨v, hv⟩ : ∃ v, v = x.slots[j] := ⟨_, rfl⟩
                          obtain ⟨u, hu⟩ : ∃ u, u = y.slots[j] := ⟨_, rfl⟩
                          rw [← hv] at sc htk
                          rw [← hu] at uc htk
                          rw [HPL.out] at htk
                          have HTK3 : Hid (prL a b s2 (x.slots.take (j + 1)) (y.slots.take (j + 1)) = prV a b s3 v u) := htk
                          have HNO := hid hnone
                          have n0 : bs ≠ tb := by have := HLT.out _ rfl; simp at this; omega
                          have n1 : bs ≠ fb := by have := HLF.out _ rfl; simp at this; omega
                          have n2 : bt ≠ tb := by have := HLT.out _ rfl; simp at this; omega
                          have n3 : bt ≠ fb := by have := HLF.out _ rfl; simp at this; omega
                          clear hcs hct hbw htk hnone hv hu
                          cases hpv : prV a b s3 v u
                          · have HNN : Hid (prF a b a.objs.length s = none) := HFN.out (by rw [HSTEP.out]; exact HNO.out (by rw [HTK3.out]; exact hpv))
                            go_wp2_with fail
                            refine wp_region_held_drew (S := (fun w' => w'.cell? ⟨w.heap.size, 0, none⟩ = some (.slice (some ⟨ba, oa, none⟩) a.objs.length c) ∧ w'.cell? ⟨w.heap.size, 1, none⟩ = some (.int .i64 a.cap) ∧ w'.cell? ⟨w.heap.size, 2, none⟩ = some (.int .i64 a.last) ∧ w'.cell? ⟨w.heap.size + 1, 0, none⟩ = some (.slice (some ⟨bb, ob, none⟩) b.objs.length d) ∧ w'.cell? ⟨w.heap.size + 1, 1, none⟩ = some (.int .i64 b.cap) ∧ w'.cell? ⟨w.heap.size + 1, 2, none⟩ = some (.int .i64 b.last) ∧ w'.cell? ⟨N1, 2, none⟩ = some (.slice (some ⟨bs, os, none⟩) x.slots.length ds) ∧ w'.cell? ⟨N2, 2, none⟩ = some (.slice (some ⟨bt, ot, none⟩) y.slots.length dt) ∧ w'.cell? ⟨bs, os + j, none⟩ = some (.int .i64 v) ∧ w'.cell? ⟨bt, ot + j, none⟩ = some (.int .i64 u))) (by kernel_rfl) ?_ (fun hH0 => ?_)
                            · exact ⟨x0, x1, x2, y0, y1, y2, e2, f2, sc, uc⟩
                            refine wpAnyH_take (i := 0) (oi := { dst := some 97, op := Go.Op.move (Go.Operand.tmp 0), type := 78, pos := "ref.go:103", after := #[], guard := none }) (v := ?vv45) rfl (by kernel_rfl) (by kernel_rfl) (by kernel_rfl) (fun _ _ _ h => h) (Or.inl ⟨by rfl, ?hy45⟩) (by assumption) ?rr45
                            case hy45 => intro w hSw; (try dsimp only at hSw); go_simp; all_goals with_reducible rfl
                            try simp only [Act.put, List.setIfInBounds_toArray, List.set_cons_zero, List.set_cons_succ]
                            refine wpAnyH_take (i := 1) (oi := { dst := some 98, op := Go.Op.load 24 (Go.Operand.tmp 4), type := 24, pos := "ref.go:103", after := #[], guard := none }) (v := ?vv46) rfl (by kernel_rfl) (by kernel_rfl) (by kernel_rfl) (fun _ _ _ h => h) (Or.inl ⟨by rfl, ?hy46⟩) (by assumption) ?rr46
                            case hy46 => intro w hSw; (try dsimp only at hSw); go_simp; all_goals with_reducible rfl
                            try simp only [Act.put, List.setIfInBounds_toArray, List.set_cons_zero, List.set_cons_succ]
                            refine wpAnyH_take (i := 2) (oi := { dst := some 99, op := Go.Op.load 24 (Go.Operand.tmp 5), type := 24, pos := "ref.go:103", after := #[], guard := none }) (v := ?vv47) rfl (by kernel_rfl) (by kernel_rfl) (by kernel_rfl) (fun _ _ _ h => h) (Or.inl ⟨by rfl, ?hy47⟩) (by assumption) ?rr47
                            case hy47 => intro w hSw; (try dsimp only at hSw); go_simp; all_goals with_reducible rfl
                            try simp only [Act.put, List.setIfInBounds_toArray, List.set_cons_zero, List.set_cons_succ]
                            refine wpAnyH_take (i := 3) (oi := { dst := some 100, op := Go.Op.fieldAddr 41 (Go.Operand.tmp 8) 2, type := 0, pos := "ref.go:103", after := #[], guard := none }) (v := ?vv48) rfl (by kernel_rfl) (by kernel_rfl) (by kernel_rfl) (fun _ _ _ h => h) (Or.inl ⟨by rfl, ?hy48⟩) (by assumption) ?rr48
                            case hy48 => intro w hSw; (try dsimp only at hSw); go_simp; all_goals with_reducible rfl
                            try simp only [Act.put, List.setIfInBounds_toArray, List.set_cons_zero, List.set_cons_succ]
                            refine wpAnyH_take (i := 4) (oi := { dst := some 101, op := Go.Op.load 34 (Go.Operand.tmp 100), type := 34, pos := "ref.go:103", after := #[{ on := 3, ground := Go.Ground.data }], guard := none }) (v := ?vv49) rfl (by kernel_rfl) (by kernel_rfl) (by kernel_rfl) (fun _ _ _ h => h) (Or.inl ⟨by rfl, ?hy49⟩) (by assumption) ?rr49
                            case hy49 => intro w hSw; (try dsimp only at hSw); go_simp; all_goals with_reducible rfl
                            try simp only [Act.put, List.setIfInBounds_toArray, List.set_cons_zero, List.set_cons_succ]
                            refine wpAnyH_take (i := 5) (oi := { dst := some 102, op := Go.Op.move (Go.Operand.tmp 10), type := 3, pos := "ref.go:103", after := #[], guard := none }) (v := ?vv50) rfl (by kernel_rfl) (by kernel_rfl) (by kernel_rfl) (fun _ _ _ h => h) (Or.inl ⟨by rfl, ?hy50⟩) (by assumption) ?rr50
                            case hy50 => intro w hSw; (try dsimp only at hSw); go_simp; all_goals with_reducible rfl
                            try simp only [Act.put, List.setIfInBounds_toArray, List.set_cons_zero, List.set_cons_succ]
                            refine wpAnyH_take (i := 6) (oi := { dst := some 103, op := Go.Op.indexAddr 34 (Go.Operand.tmp 101) (Go.Operand.tmp 102), type := 0, pos := "ref.go:103", after := #[{ on := 4, ground := Go.Ground.data }, { on := 5, ground := Go.Ground.data }], guard := none }) (v := ?vv51) rfl (by kernel_rfl) (by kernel_rfl) (by kernel_rfl) (fun _ _ _ h => h) (Or.inl ⟨by rfl, ?hy51⟩) (by assumption) ?rr51
                            case hy51 => intro w hSw; (try dsimp only at hSw); go_simp; all_goals with_reducible rfl
                            try simp only [Act.put, List.setIfInBounds_toArray, List.set_cons_zero, List.set_cons_succ]
                            refine wpAnyH_take (i := 7) (oi := { dst := some 104, op := Go.Op.load 3 (Go.Operand.tmp 103), type := 3, pos := "ref.go:103", after := #[{ on := 6, ground := Go.Ground.data }], guard := none }) (v := ?vv52) rfl (by kernel_rfl) (by kernel_rfl) (by kernel_rfl) (fun _ _ _ h => h) (Or.inl ⟨by rfl, ?hy52⟩) (by assumption) ?rr52
                            case hy52 => intro w hSw; (try dsimp only at hSw); go_simp; all_goals with_reducible rfl
                            try simp only [Act.put, List.setIfInBounds_toArray, List.set_cons_zero, List.set_cons_succ]
                            refine wpAnyH_take (i := 8) (oi := { dst := some 105, op := Go.Op.fieldAddr 41 (Go.Operand.tmp 9) 2, type := 0, pos := "ref.go:103", after := #[], guard := none }) (v := ?vv53) rfl (by kernel_rfl) (by kernel_rfl) (by kernel_rfl) (fun _ _ _ h => h) (Or.inl ⟨by rfl, ?hy53⟩) (by assumption) ?rr53
                            case hy53 => intro w hSw; (try dsimp only at hSw); go_simp; all_goals with_reducible rfl
                            try simp only [Act.put, List.setIfInBounds_toArray, List.set_cons_zero, List.set_cons_succ]
                            refine wpAnyH_take (i := 9) (oi := { dst := some 106, op := Go.Op.load 34 (Go.Operand.tmp 105), type := 34, pos := "ref.go:103", after := #[{ on := 8, ground := Go.Ground.data }], guard := none }) (v := ?vv54) rfl (by kernel_rfl) (by kernel_rfl) (by kernel_rfl) (fun _ _ _ h => h) (Or.inl ⟨by rfl, ?hy54⟩) (by assumption) ?rr54
                            case hy54 => intro w hSw; (try dsimp only at hSw); go_simp; all_goals with_reducible rfl
                            try simp only [Act.put, List.setIfInBounds_toArray, List.set_cons_zero, List.set_cons_succ]
                            refine wpAnyH_take (i := 10) (oi := { dst := some 107, op := Go.Op.move (Go.Operand.tmp 10), type := 3, pos := "ref.go:103", after := #[], guard := none }) (v := ?vv55) rfl (by kernel_rfl) (by kernel_rfl) (by kernel_rfl) (fun _ _ _ h => h) (Or.inl ⟨by rfl, ?hy55⟩) (by assumption) ?rr55
                            case hy55 => intro w hSw; (try dsimp only at hSw); go_simp; all_goals with_reducible rfl
                            try simp only [Act.put, List.setIfInBounds_toArray, List.set_cons_zero, List.set_cons_succ]
                            refine wpAnyH_take (i := 11) (oi := { dst := some 108, op := Go.Op.indexAddr 34 (Go.Operand.tmp 106) (Go.Operand.tmp 107), type := 0, pos := "ref.go:103", after := #[{ on := 9, ground := Go.Ground.data }, { on := 10, ground := Go.Ground.data }], guard := none }) (v := ?vv56) rfl (by kernel_rfl) (by kernel_rfl) (by kernel_rfl) (fun _ _ _ h => h) (Or.inl ⟨by rfl, ?hy56⟩) (by assumption) ?rr56
                            case hy56 => intro w hSw; (try dsimp only at hSw); go_simp; all_goals with_reducible rfl
                            try simp only [Act.put, List.setIfInBounds_toArray, List.set_cons_zero, List.set_cons_succ]
                            refine wpAnyH_take (i := 12) (oi := { dst := some 109, op := Go.Op.load 3 (Go.Operand.tmp 108), type := 3, pos := "ref.go:103", after := #[{ on := 11, ground := Go.Ground.data }], guard := none }) (v := ?vv57) rfl (by kernel_rfl) (by kernel_rfl) (by kernel_rfl) (fun _ _ _ h => h) (Or.inl ⟨by rfl, ?hy57⟩) (by assumption) ?rr57
                            case hy57 => intro w hSw; (try dsimp only at hSw); go_simp; all_goals with_reducible rfl
                            try simp only [Act.put, List.setIfInBounds_toArray, List.set_cons_zero, List.set_cons_succ]
                            refine wpAnyH_ready (rs := [13]) (by kernel_rfl) (by simp) ?_
                            refine AllReadyH.cons (i := 13) (o := { dst := some 110, op := Go.Op.call { callee := Go.Callee.value (Go.Operand.func 62), args := #[Go.Operand.tmp 97, Go.Operand.tmp 98, Go.Operand.tmp 99, Go.Operand.tmp 104, Go.Operand.tmp 109], argTypes := #[78, 24, 24, 3, 3] }, type := 4, pos := "ref.go:103", after := #[{ on := 0, ground := Go.Ground.data }, { on := 1, ground := Go.Ground.data }, { on := 2, ground := Go.Ground.data }, { on := 7, ground := Go.Ground.data }, { on := 12, ground := Go.Ground.data }], guard := none }) rfl (fun K hK => ?_) AllReadyH.nil
                            go_simp
                            go_at_call 62
                            refine (pair_any a b s3 v u base pb (some ⟨tb, 0, none⟩) (some ⟨fb, 0, none⟩) (some ⟨ba, oa, none⟩) (some ⟨bb, ob, none⟩) ct cf c d _ (HP3.out.later (Below.refl _ _).drew) HG3.out ha256 hb256).mono ?_
                            rintro e w7 ⟨ht7, hr7⟩
                            rw [hpv] at hr7
                            rcases hr7 with ⟨_, g, -⟩ | ⟨-, rfl⟩
                            · cases g
                            have HT7 := hid (HT3.out.trans ((Turn2.of_below (Below.refl _ wi).drew _ _).trans ht7))
                            refine hK.out _ _ ?_ (fun hH1 => ?_)
                            · exact ⟨ht7.cell hH0.1 HNT.out.1 HNF.out.1, ht7.cell hH0.2.1 HNT.out.1 HNF.out.1, ht7.cell hH0.2.2.1 HNT.out.1 HNF.out.1, ht7.cell hH0.2.2.2.1 HNT.out.2 HNF.out.2, ht7.cell hH0.2.2.2.2.1 HNT.out.2 HNF.out.2, ht7.cell hH0.2.2.2.2.2.1 HNT.out.2 HNF.out.2, ht7.cell hH0.2.2.2.2.2.2.1 (fun ad e => by cases e; show N1 ≠ tb; omega) (fun ad e => by cases e; show N1 ≠ fb; omega), ht7.cell hH0.2.2.2.2.2.2.2.1 (fun ad e => by cases e; show N2 ≠ tb; omega) (fun ad e => by cases e; show N2 ≠ fb; omega), ht7.cell hH0.2.2.2.2.2.2.2.2.1 (fun ad e => by cases e; exact n0) (fun ad e => by cases e; exact n1), ht7.cell hH0.2.2.2.2.2.2.2.2.2 (fun ad e => by cases e; exact n2) (fun ad e => by cases e; exact n3)⟩
                            clear hK K
                            try simp only [Act.put, List.setIfInBounds_toArray, List.set_cons_zero, List.set_cons_succ]
                            clear ht7
                            refine wpAnyH_take (i := 14) (oi := { dst := some 111, op := Go.Op.unOp Go.UnOp.not 4 (Go.Operand.tmp 110), type := 4, pos := "ref.go:103", after := #[{ on := 13, ground := Go.Ground.data }], guard := none }) (v := ?vv58) rfl (by kernel_rfl) (by kernel_rfl) (by kernel_rfl) (fun _ _ _ h => h) (Or.inl ⟨by rfl, ?hy58⟩) (by assumption) ?rr58
                            case hy58 => intro w hSw; (try dsimp only at hSw); go_simp; all_goals with_reducible rfl
                            try simp only [Act.put, List.setIfInBounds_toArray, List.set_cons_zero, List.set_cons_succ]
                            refine wpAnyH_done (by kernel_rfl) ?_ _
                            go_wp2_with fail
                            go_ret
                            exact ⟨HT7.out, .inr ⟨HNN.out, rfl⟩⟩
                          · rename_i s4
                            have HG4 := hid (prV_goes HG3.out hpv).1.good
                            have HTK4 : Hid (prL a b s2 (x.slots.take (j + 1)) (y.slots.take (j + 1)) = some s4) := by show _ = _; rw [HTK3.out]; exact hpv
                            go_wp2_with fail
                            refine wp_region_held_drew (S := (fun w' => w'.cell? ⟨w.heap.size, 0, none⟩ = some (.slice (some ⟨ba, oa, none⟩) a.objs.length c) ∧ w'.cell? ⟨w.heap.size, 1, none⟩ = some (.int .i64 a.cap) ∧ w'.cell? ⟨w.heap.size, 2, none⟩ = some (.int .i64 a.last) ∧ w'.cell? ⟨w.heap.size + 1, 0, none⟩ = some (.slice (some ⟨bb, ob, none⟩) b.objs.length d) ∧ w'.cell? ⟨w.heap.size + 1, 1, none⟩ = some (.int .i64 b.cap) ∧ w'.cell? ⟨w.heap.size + 1, 2, none⟩ = some (.int .i64 b.last) ∧ w'.cell? ⟨N1, 2, none⟩ = some (.slice (some ⟨bs, os, none⟩) x.slots.length ds) ∧ w'.cell? ⟨N2, 2, none⟩ = some (.slice (some ⟨bt, ot, none⟩) y.slots.length dt) ∧ w'.cell? ⟨bs, os + j, none⟩ = some (.int .i64 v) ∧ w'.cell? ⟨bt, ot + j, none⟩ = some (.int .i64 u))) (by kernel_rfl) ?_ (fun hH0 => ?_)
                            · exact ⟨x0, x1, x2, y0, y1, y2, e2, f2, sc, uc⟩
                            refine wpAnyH_take (i := 0) (oi := { dst := some 97, op := Go.Op.move (Go.Operand.tmp 0), type := 78, pos := "ref.go:103", after := #[], guard := none }) (v := ?vv59) rfl (by kernel_rfl) (by kernel_rfl) (by kernel_rfl) (fun _ _ _ h => h) (Or.inl ⟨by rfl, ?hy59⟩) (by assumption) ?rr59
                            case hy59 => intro w hSw; (try dsimp only at hSw); go_simp; all_goals with_reducible rfl
                            try simp only [Act.put, List.setIfInBounds_toArray, List.set_cons_zero, List.set_cons_succ]
                            refine wpAnyH_take (i := 1) (oi := { dst := some 98, op := Go.Op.load 24 (Go.Operand.tmp 4), type := 24, pos := "ref.go:103", after := #[], guard := none }) (v := ?vv60) rfl (by kernel_rfl) (by kernel_rfl) (by kernel_rfl) (fun _ _ _ h => h) (Or.inl ⟨by rfl, ?hy60⟩) (by assumption) ?rr60
                            case hy60 => intro w hSw; (try dsimp only at hSw); go_simp; all_goals with_reducible rfl
                            try simp only [Act.put, List.setIfInBounds_toArray, List.set_cons_zero, List.set_cons_succ]
                            refine wpAnyH_take (i := 2) (oi := { dst := some 99, op := Go.Op.load 24 (Go.Operand.tmp 5), type := 24, pos := "ref.go:103", after := #[], guard := none }) (v := ?vv61) rfl (by kernel_rfl) (by kernel_rfl) (by kernel_rfl) (fun _ _ _ h => h) (Or.inl ⟨by rfl, ?hy61⟩) (by assumption) ?rr61
                            case hy61 => intro w hSw; (try dsimp only at hSw); go_simp; all_goals with_reducible rfl
                            try simp only [Act.put, List.setIfInBounds_toArray, List.set_cons_zero, List.set_cons_succ]
                            refine wpAnyH_take (i := 3) (oi := { dst := some 100, op := Go.Op.fieldAddr 41 (Go.Operand.tmp 8) 2, type := 0, pos := "ref.go:103", after := #[], guard := none }) (v := ?vv62) rfl (by kernel_rfl) (by kernel_rfl) (by kernel_rfl) (fun _ _ _ h => h) (Or.inl ⟨by rfl, ?hy62⟩) (by assumption) ?rr62
                            case hy62 => intro w hSw; (try dsimp only at hSw); go_simp; all_goals with_reducible rfl
                            try simp only [Act.put, List.setIfInBounds_toArray, List.set_cons_zero, List.set_cons_succ]
                            refine wpAnyH_take (i := 4) (oi := { dst := some 101, op := Go.Op.load 34 (Go.Operand.tmp 100), type := 34, pos := "ref.go:103", after := #[{ on := 3, ground := Go.Ground.data }], guard := none }) (v := ?vv63) rfl (by kernel_rfl) (by kernel_rfl) (by kernel_rfl) (fun _ _ _ h => h) (Or.inl ⟨by rfl, ?hy63⟩) (by assumption) ?rr63
                            case hy63 => intro w hSw; (try dsimp only at hSw); go_simp; all_goals with_reducible rfl
                            try simp only [Act.put, List.setIfInBounds_toArray, List.set_cons_zero, List.set_cons_succ]
                            refine wpAnyH_take (i := 5) (oi := { dst := some 102, op := Go.Op.move (Go.Operand.tmp 10), type := 3, pos := "ref.go:103", after := #[], guard := none }) (v := ?vv64) rfl (by kernel_rfl) (by kernel_rfl) (by kernel_rfl) (fun _ _ _ h => h) (Or.inl ⟨by rfl, ?hy64⟩) (by assumption) ?rr64
                            case hy64 => intro w hSw; (try dsimp only at hSw); go_simp; all_goals with_reducible rfl
                            try simp only [Act.put, List.setIfInBounds_toArray, List.set_cons_zero, List.set_cons_succ]
                            refine wpAnyH_take (i := 6) (oi := { dst := some 103, op := Go.Op.indexAddr 34 (Go.Operand.tmp 101) (Go.Operand.tmp 102), type := 0, pos := "ref.go:103", after := #[{ on := 4, ground := Go.Ground.data }, { on := 5, ground := Go.Ground.data }], guard := none }) (v := ?vv65) rfl (by kernel_rfl) (by kernel_rfl) (by kernel_rfl) (fun _ _ _ h => h) (Or.inl ⟨by rfl, ?hy65⟩) (by assumption) ?rr65
                            case hy65 => intro w hSw; (try dsimp only at hSw); go_simp; all_goals with_reducible rfl
                            try simp only [Act.put, List.setIfInBounds_toArray, List.set_cons_zero, List.set_cons_succ]
                            refine wpAnyH_take (i := 7) (oi := { dst := some 104, op := Go.Op.load 3 (Go.Operand.tmp 103), type := 3, pos := "ref.go:103", after := #[{ on := 6, ground := Go.Ground.data }], guard := none }) (v := ?vv66) rfl (by kernel_rfl) (by kernel_rfl) (by kernel_rfl) (fun _ _ _ h => h) (Or.inl ⟨by rfl, ?hy66⟩) (by assumption) ?rr66
                            case hy66 => intro w hSw; (try dsimp only at hSw); go_simp; all_goals with_reducible rfl
                            try simp only [Act.put, List.setIfInBounds_toArray, List.set_cons_zero, List.set_cons_succ]
                            refine wpAnyH_take (i := 8) (oi := { dst := some 105, op := Go.Op.fieldAddr 41 (Go.Operand.tmp 9) 2, type := 0, pos := "ref.go:103", after := #[], guard := none }) (v := ?vv67) rfl (by kernel_rfl) (by kernel_rfl) (by kernel_rfl) (fun _ _ _ h => h) (Or.inl ⟨by rfl, ?hy67⟩) (by assumption) ?rr67
                            case hy67 => intro w hSw; (try dsimp only at hSw); go_simp; all_goals with_reducible rfl
                            try simp only [Act.put, List.setIfInBounds_toArray, List.set_cons_zero, List.set_cons_succ]
                            refine wpAnyH_take (i := 9) (oi := { dst := some 106, op := Go.Op.load 34 (Go.Operand.tmp 105), type := 34, pos := "ref.go:103", after := #[{ on := 8, ground := Go.Ground.data }], guard := none }) (v := ?vv68) rfl (by kernel_rfl) (by kernel_rfl) (by kernel_rfl) (fun _ _ _ h => h) (Or.inl ⟨by rfl, ?hy68⟩) (by assumption) ?rr68
                            case hy68 => intro w hSw; (try dsimp only at hSw); go_simp; all_goals with_reducible rfl
                            try simp only [Act.put, List.setIfInBounds_toArray, List.set_cons_zero, List.set_cons_succ]
                            refine wpAnyH_take (i := 10) (oi := { dst := some 107, op := Go.Op.move (Go.Operand.tmp 10), type := 3, pos := "ref.go:103", after := #[], guard := none }) (v := ?vv69) rfl (by kernel_rfl) (by kernel_rfl) (by kernel_rfl) (fun _ _ _ h => h) (Or.inl ⟨by rfl, ?hy69⟩) (by assumption) ?rr69
                            case hy69 => intro w hSw; (try dsimp only at hSw); go_simp; all_goals with_reducible rfl
                            try simp only [Act.put, List.setIfInBounds_toArray, List.set_cons_zero, List.set_cons_succ]
                            refine wpAnyH_take (i := 11) (oi := { dst := some 108, op := Go.Op.indexAddr 34 (Go.Operand.tmp 106) (Go.Operand.tmp 107), type := 0, pos := "ref.go:103", after := #[{ on := 9, ground := Go.Ground.data }, { on := 10, ground := Go.Ground.data }], guard := none }) (v := ?vv70) rfl (by kernel_rfl) (by kernel_rfl) (by kernel_rfl) (fun _ _ _ h => h) (Or.inl ⟨by rfl, ?hy70⟩) (by assumption) ?rr70
                            case hy70 => intro w hSw; (try dsimp only at hSw); go_simp; all_goals with_reducible rfl
                            try simp only [Act.put, List.setIfInBounds_toArray, List.set_cons_zero, List.set_cons_succ]
                            refine wpAnyH_take (i := 12) (oi := { dst := some 109, op := Go.Op.load 3 (Go.Operand.tmp 108), type := 3, pos := "ref.go:103", after := #[{ on := 11, ground := Go.Ground.data }], guard := none }) (v := ?vv71) rfl (by kernel_rfl) (by kernel_rfl) (by kernel_rfl) (fun _ _ _ h => h) (Or.inl ⟨by rfl, ?hy71⟩) (by assumption) ?rr71
                            case hy71 => intro w hSw; (try dsimp only at hSw); go_simp; all_goals with_reducible rfl
                            try simp only [Act.put, List.setIfInBounds_toArray, List.set_cons_zero, List.set_cons_succ]
                            refine wpAnyH_ready (rs := [13]) (by kernel_rfl) (by simp) ?_
                            refine AllReadyH.cons (i := 13) (o := { dst := some 110, op := Go.Op.call { callee := Go.Callee.value (Go.Operand.func 62), args := #[Go.Operand.tmp 97, Go.Operand.tmp 98, Go.Operand.tmp 99, Go.Operand.tmp 104, Go.Operand.tmp 109], argTypes := #[78, 24, 24, 3, 3] }, type := 4, pos := "ref.go:103", after := #[{ on := 0, ground := Go.Ground.data }, { on := 1, ground := Go.Ground.data }, { on := 2, ground := Go.Ground.data }, { on := 7, ground := Go.Ground.data }, { on := 12, ground := Go.Ground.data }], guard := none }) rfl (fun K hK => ?_) AllReadyH.nil
                            go_simp
                            go_at_call 62
                            refine (pair_any a b s3 v u base pb (some ⟨tb, 0, none⟩) (some ⟨fb, 0, none⟩) (some ⟨ba, oa, none⟩) (some ⟨bb, ob, none⟩) ct cf c d _ (HP3.out.later (Below.refl _ _).drew) HG3.out ha256 hb256).mono ?_
                            rintro e w7 ⟨ht7, hr7⟩
                            rw [hpv] at hr7
                            rcases hr7 with ⟨_, g, rfl, hp7⟩ | ⟨g, -⟩
                            case inr => cases g
                            obtain rfl := Option.some.inj g
                            have HP8 := hid hp7
                            clear hp7 g
                            have HT7 := hid (HT3.out.trans ((Turn2.of_below (Below.refl _ wi).drew _ _).trans ht7))
                            have HXA8 := hid (ht7.lies HXA.out.drew HNT.out.1 HNF.out.1)
                            have HYA8 := hid (ht7.lies HYA.out.drew HNT.out.2 HNF.out.2)
                            have HLX8 := hid (ht7.lies HLX.out.drew (fun ad e => by cases e; show N1 ≠ tb; omega) (fun ad e => by cases e; show N1 ≠ fb; omega))
                            have HLY8 := hid (ht7.lies HLY.out.drew (fun ad e => by cases e; show N2 ≠ tb; omega) (fun ad e => by cases e; show N2 ≠ fb; omega))
                            refine hK.out _ _ ?_ (fun hH1 => ?_)
                            · exact ⟨ht7.cell hH0.1 HNT.out.1 HNF.out.1, ht7.cell hH0.2.1 HNT.out.1 HNF.out.1, ht7.cell hH0.2.2.1 HNT.out.1 HNF.out.1, ht7.cell hH0.2.2.2.1 HNT.out.2 HNF.out.2, ht7.cell hH0.2.2.2.2.1 HNT.out.2 HNF.out.2, ht7.cell hH0.2.2.2.2.2.1 HNT.out.2 HNF.out.2, ht7.cell hH0.2.2.2.2.2.2.1 (fun ad e => by cases e; show N1 ≠ tb; omega) (fun ad e => by cases e; show N1 ≠ fb; omega), ht7.cell hH0.2.2.2.2.2.2.2.1 (fun ad e => by cases e; show N2 ≠ tb; omega) (fun ad e => by cases e; show N2 ≠ fb; omega), ht7.cell hH0.2.2.2.2.2.2.2.2.1 (fun ad e => by cases e; exact n0) (fun ad e => by cases e; exact n1), ht7.cell hH0.2.2.2.2.2.2.2.2.2 (fun ad e => by cases e; exact n2) (fun ad e => by cases e; exact n3)⟩
                            clear hK K
                            try simp only [Act.put, List.setIfInBounds_toArray, List.set_cons_zero, List.set_cons_succ]
                            clear ht7
                            refine wpAnyH_take (i := 14) (oi := { dst := some 111, op := Go.Op.unOp Go.UnOp.not 4 (Go.Operand.tmp 110), type := 4, pos := "ref.go:103", after := #[{ on := 13, ground := Go.Ground.data }], guard := none }) (v := ?vv72) rfl (by kernel_rfl) (by kernel_rfl) (by kernel_rfl) (fun _ _ _ h => h) (Or.inl ⟨by rfl, ?hy72⟩) (by assumption) ?rr72
                            case hy72 => intro w hSw; (try dsimp only at hSw); go_simp; all_goals with_reducible rfl
                            try simp only [Act.put, List.setIfInBounds_toArray, List.set_cons_zero, List.set_cons_succ]
                            refine wpAnyH_done (by kernel_rfl) ?_ _
                            go_wp2_with fail
                            go_roundw
                            case rel => exact ⟨j + 1, s4, by omega, by go_num, HTK4.out, HG4.out, HP8.out, HT7.out, HXA8.out, HYA8.out, HLX8.out, HLY8.out⟩
                            case measure => simp [intOf]; omega
                        · have hje : j = x.slots.length := by omega
                          have HDN : Hid (prF a b (i + 1) s = some s3) := by
                            show _ = _
                            rw [prF_at HPF.out, HSTEP.out]
                            have := HPL.out
                            rw [hje, List.take_length, Q4.out, List.take_length] at this
                            exact this
                          clear hje
                          go_wp2_with fail
                          go_roundw
                          case rel => exact ⟨i + 1, s3, by omega, by go_num, HDN.out, HG3.out, HP3.out, HT3.out, HXA.out, HYA.out⟩
                          case measure => simp [intOf]; omega
                  · have t4 : ((x.slots.length : Int) != (y.slots.length : Int)) = true := by simp; omega
                    have HNN : Hid (prF a b a.objs.length s = none) := HFN.out (prO_no HTI.out HX1.out HY1.out HTK.out fun g => q4 g.2.2.2.2)
                    clear q4
                    go_wp2_with fail
                    go_ret
                    exact ⟨HTW.out, .inr ⟨HNN.out, rfl⟩⟩
                · have t3 : (x.hash != y.hash) = true := by simpa using q3
                  have HNN : Hid (prF a b a.objs.length s = none) := HFN.out (prO_no HTI.out HX1.out HY1.out HTK.out fun g => q3 g.2.2.2.1)
                  clear q3
                  go_wp2_with fail
                  go_ret
                  exact ⟨HTW.out, .inr ⟨HNN.out, rfl⟩⟩
              · have t2 : (x.bits != y.bits) = true := by simpa using q2
                have HNN : Hid (prF a b a.objs.length s = none) := HFN.out (prO_no HTI.out HX1.out HY1.out HTK.out fun g => q2 g.2.2.1)
                clear q2
                go_wp2_with fail
                go_ret
                exact ⟨HTW.out, .inr ⟨HNN.out, rfl⟩⟩
            · have t1 : ¬ x.text.toList = y.text.toList := fun e => q1 (text_inj2 e)
              have HNN : Hid (prF a b a.objs.length s = none) := HFN.out (prO_no HTI.out HX1.out HY1.out HTK.out fun g => q1 g.2.1)
              clear q1
              go_wp2_with fail
              go_ret
              exact ⟨HTW.out, .inr ⟨HNN.out, rfl⟩⟩
          · have t0 : (x.kind != y.kind) = true := by simpa using q0
            have HNN : Hid (prF a b a.objs.length s = none) := HFN.out (prO_no HTI.out HX1.out HY1.out HTK.out fun g => q0 g.1)
            clear q0
            go_wp2_with fail
            go_ret
            exact ⟨HTW.out, .inr ⟨HNN.out, rfl⟩⟩
    · have hie : i = a.objs.length := by omega
      have HDN : Hid (prF a b a.objs.length s = some s1) := by show _ = _; rw [← hie]; exact HPF.out
      clear hie
      go_wp2_with fail
      go_ret
      exact ⟨HT.out, .inl ⟨s1, HDN.out, rfl, HP.out⟩⟩
end Go.Proofs.YtnilempeldlieaaGreat
