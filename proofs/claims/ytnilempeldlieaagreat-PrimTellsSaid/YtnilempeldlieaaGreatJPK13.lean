/- Primitives 10, 15: how many slots or bytes; the hash. Primitives 1 to 5, 11, 12, 17 to 24, 27: numbers, floats, new objects. -/
import Derived.Test.YtnilempeldlieaaGreatJ04
import Derived.Test.YtnilempeldlieaaGreatJPI13
import Derived.Test.YtnilempeldlieaaGreatJPG13
import Derived.Test.YtnilempeldlieaaGreatJFLU
namespace Go.Proofs.YtnilempeldlieaaGreat
abbrev oPK130 : Oper := ⟨some 5, .move (.tmp 0), 86, "prim.go:194", #[], none⟩
abbrev oPK131 : Oper := ⟨some 6, .move (.tmp 0), 86, "prim.go:194", #[], none⟩
abbrev oPK132 : Oper := ⟨some 7, .nilCheck (.tmp 6), 0, "prim.go:194", #[⟨1, .data⟩], none⟩
abbrev oPK133 : Oper := ⟨some 8, .fieldAddr 62 (.tmp 7) 1, 0, "prim.go:194", #[⟨2, .data⟩], none⟩
abbrev oPK134 : Oper := ⟨some 9, .load 3 (.tmp 8), 3, "prim.go:194", #[⟨3, .data⟩], none⟩
abbrev oPK135 : Oper := ⟨some 10, .move (.tmp 0), 86, "prim.go:194", #[], none⟩
abbrev oPK136 : Oper := ⟨some 11, .nilCheck (.tmp 10), 0, "prim.go:194", #[⟨5, .data⟩], none⟩
abbrev oPK137 : Oper := ⟨some 12, .fieldAddr 62 (.tmp 11) 0, 0, "prim.go:194", #[⟨6, .data⟩], none⟩
abbrev oPK138 : Oper := ⟨some 14, .move (.tmp 0), 86, "prim.go:194", #[], none⟩
abbrev oPK139 : Oper := ⟨some 15, .nilCheck (.tmp 14), 0, "prim.go:194", #[⟨9, .data⟩], none⟩
abbrev oPK1310 : Oper := ⟨some 16, .fieldAddr 62 (.tmp 15) 1, 0, "prim.go:194", #[⟨10, .data⟩], none⟩
abbrev oPK1311 : Oper := ⟨some 17, .load 3 (.tmp 16), 3, "prim.go:194", #[⟨11, .data⟩], none⟩
abbrev oPK1312 : Oper := ⟨some 13, .load 24 (.tmp 12), 24, "prim.go:194", #[⟨7, .data⟩], none⟩
abbrev oPK1313 : Oper := ⟨some 18, .call { callee := .value (.func 181), args := #[.tmp 13, .tmp 17, .const (Go.Value.int .i64 2)], argTypes := #[24, 3, 3] }, 63, "prim.go:194", #[⟨8, .data⟩, ⟨12, .data⟩], none⟩
abbrev oPK1314 : Oper := ⟨some 19, .extract (.tmp 18) 0, 3, "prim.go:194", #[⟨13, .data⟩], none⟩
abbrev oPK1315 : Oper := ⟨some 20, .extract (.tmp 18) 1, 25, "prim.go:194", #[⟨13, .data⟩], none⟩
abbrev oPK1316 : Oper := ⟨some 21, .call { callee := .value (.func 180), args := #[.tmp 19, .tmp 20], argTypes := #[3, 25] }, 3, "prim.go:194", #[⟨14, .data⟩, ⟨15, .data⟩, ⟨13, .chain⟩], none⟩
abbrev oPK1317 : Oper := ⟨some 22, .call { callee := .value (.func 178), args := #[.tmp 21], argTypes := #[3] }, 3, "prim.go:194", #[⟨16, .data⟩, ⟨16, .chain⟩], none⟩
abbrev oPK1318 : Oper := ⟨some 23, .call { callee := .value (.func 187), args := #[.tmp 5, .tmp 9, .const (Go.Value.int .i64 0), .tmp 22], argTypes := #[86, 3, 3, 3] }, 3, "prim.go:194", #[⟨0, .data⟩, ⟨4, .data⟩, ⟨17, .data⟩, ⟨17, .chain⟩], none⟩
open Go.RowKit Flt
set_option maxRecDepth 100000
set_option maxHeartbeats 1000000 in
theorem size_any13 (b base : Nat) (h : Hp) (A : Option Addr) (c : Nat) (s : Int) (args : List Int) (SA : Option Addr) (da : Nat) (w : World) (I : In13 w b base h A c s args SA da) :
    Calls Tryz.prog 144 #[.pointer (some ⟨b, 0, none⟩)] w (Po13 w b h A c s args.length SA da (if refB h.objs.length s = false ∨ (obAt h s).kind = 2 then fa13 h else in13 h ((obAt h s).slots.length + (obAt h s).text.size))) := by
  have HI := hid I
  obtain ⟨x0, x1, x2, x3, x4⟩ := I.box.c5
  clear I
  obtain ⟨rr, hrr⟩ : ∃ r : Rs, r = (if refB h.objs.length s = false ∨ (obAt h s).kind = 2 then fa13 h else in13 h ((obAt h s).slots.length + (obAt h s).text.size)) := ⟨_, rfl⟩
  rw [← hrr]
  have HRR := hid hrr
  clear hrr
  cases hr : refB h.objs.length s
  · have ha : atB s = false := by
      cases ha : atB s
      · rfl
      · rw [has_at13 HI.out.has ha] at hr; cases hr
    go_enter Tryz.func144, Tryz.ntmps144
    go_wp2_with fail
    refine (object_no13 b base h A c s args SA da w HI.out ha).mono ?_
    rintro e w1 ⟨rfl, hb⟩
    exact ⟨rfl, pr_stop13 hb (by rw [HRR.out, if_pos (.inl hr)]; rfl) (by decide)⟩
  · have HO := hid (object_ok13 b base h A c s args SA da w HI.out hr)
    have hl : (obAt h s).slots.length ≤ 64 ∧ (obAt h s).text.size ≤ 64 := by
      obtain ⟨i, -, -, ho⟩ := obAt_get hr
      have := kind_len (ob_kind (may_all HI.out.may _ (List.mem_of_getElem? ho)))
      exact ⟨this.1, this.2.1⟩
    obtain ⟨ob, hob⟩ : ∃ o, o = obAt h s := ⟨_, rfl⟩
    rw [← hob] at HO hl HRR
    clear hob
    have hl1 := hl.1
    have hl2 := hl.2
    have hw : IntKind.i64.wrap ((ob.slots.length : Int) + (ob.text.size : Int)) = (ob.slots.length : Int) + (ob.text.size : Int) := IntWalk.i64_in _ (by omega)
    have SM : Hid (smB ((ob.slots.length : Int) + (ob.text.size : Int)) = true) := hid (smB_iff.2 ⟨by omega, by omega⟩)
    clear hl
    go_enter Tryz.func144, Tryz.ntmps144
    go_wp2_with fail
    refine HO.out.mono ?_
    rintro e w1 ⟨⟨S, d, rfl⟩, hb⟩
    go_upto_region 2 with fail
    obtain ⟨w2, hw9⟩ : ∃ x, x = w1.alloc (.cells #[.int .i64 ob.cls, .int .i64 ob.kind, .slice S ob.slots.length d, .string ob.text, .int .i64 ob.bits, .int .i64 ob.hash] 41) := ⟨_, rfl⟩
    obtain ⟨bg, hbx⟩ : ∃ x, x = w1.heap.size := ⟨_, rfl⟩
    have G2 : Hid (Lies w2 bg 41 #[.int .i64 ob.cls, .int .i64 ob.kind, .slice S ob.slots.length d, .string ob.text, .int .i64 ob.bits, .int .i64 ob.hash]) := by show Lies _ _ _ _; rw [hw9, hbx]; exact Lies.new _ _ _
    have hb2 : Below w1.heap.size w1 w2 := by rw [hw9]; exact below_alloc _ _
    rw [← hw9, ← hbx]
    have HB := hid (then_w hb hb2)
    clear hw9 hbx hb hb2 x0 x1 x2 x3 x4
    obtain ⟨g0, g1, g2, g3, g4, g5⟩ := G2.out.c6
    by_cases hk : ob.kind = 2
    · go_wp2_with (go_at_call 74; refine (fail_any13 _).mono ?_; rintro e w9 ⟨rfl, rfl⟩)
      exact ⟨rfl, pr_stop13 HB.out (by rw [HRR.out, if_pos (.inr hk)]; rfl) (by decide)⟩
    · go_wp2_with (go_at_call 177; refine (small_ok13 SM.out _).mono ?_; rintro e w9 ⟨rfl, rfl⟩)
      go_ret
      exact pr_keep13 HI.out HB.out (by rw [HRR.out, if_neg (by simp [hr, hk])]; exact in_ok13 SM.out)
theorem run_field13 (a b : Int) (c : Value) (t : ByteArray) (x y : Int) (w : World) : (Instr.field 41 (.agg #[.int .i64 a, .int .i64 b, c, .string t, .int .i64 x, .int .i64 y]) 5).run Tryz.prog w = .ok (.int .i64 y) w := by kernel_rfl
set_option maxHeartbeats 1000000 in
theorem hash_any13 (b base : Nat) (h : Hp) (A : Option Addr) (c : Nat) (s : Int) (args : List Int) (SA : Option Addr) (da : Nat) (w : World) (I : In13 w b base h A c s args SA da) :
    Calls Tryz.prog 149 #[.pointer (some ⟨b, 0, none⟩)] w (Po13 w b h A c s args.length SA da (if nB s then (h, s, 0) else in13 h (obAt h s).hash)) := by
  have HI := hid I
  obtain ⟨x0, x1, x2, x3, x4⟩ := I.box.c5
  clear I
  obtain ⟨rr, hrr⟩ : ∃ r : Rs, r = (if nB s then (h, s, 0) else in13 h (obAt h s).hash) := ⟨_, rfl⟩
  rw [← hrr]
  have HRR := hid hrr
  clear hrr
  cases hn : nB s
  · have hr := has_ref13 HI.out.has hn
    have HO := hid (fun (u : World) (U : In13 u b base h A c s args SA da) => object_ok13 b base h A c s args SA da u U hr)
    have hh : haB (obAt h s).hash = true := by
      obtain ⟨i, -, -, ho⟩ := obAt_get hr
      have := may_all HI.out.may _ (List.mem_of_getElem? ho)
      unfold obB at this
      simp only [Bool.and_eq_true] at this
      exact this.1.1.2
    obtain ⟨ob, hob⟩ : ∃ o, o = obAt h s := ⟨_, rfl⟩
    rw [← hob] at HO hh HRR
    clear hob
    have SM : Hid (smB ob.hash = true) := by
      show _ = _
      unfold haB at hh
      simp only [decide_eq_true_eq] at hh
      exact smB_iff.2 ⟨by omega, by omega⟩
    clear hh
    go_enter Tryz.func149, Tryz.ntmps149
    go_wp2_with (go_at_call 164; refine (n_any _ _).mono ?_; rintro e w' ⟨rfl, rfl⟩)
    refine (HO.out _ HI.out).mono ?_
    rintro e w1 ⟨⟨S, d, rfl⟩, hb⟩
    have HB := hid hb
    clear hb x0 x1 x2 x3 x4
    have hfd := fun w9 => run_field13 ob.cls ob.kind (.slice S ob.slots.length d) ob.text ob.bits ob.hash w9
    go_wp2_with (go_at_call 177; refine (small_ok13 SM.out _).mono ?_; rintro e w9 ⟨rfl, rfl⟩)
    go_ret
    exact pr_keep13 HI.out HB.out (by rw [HRR.out, if_neg (by rw [hn]; decide)]; exact in_ok13 SM.out)
  · go_enter Tryz.func149, Tryz.ntmps149
    go_wp2_with (go_at_call 164; refine (n_any _ _).mono ?_; rintro e w' ⟨rfl, rfl⟩)
    go_ret
    exact pr_keep13 HI.out (Below.refl _ _) (by rw [HRR.out, if_pos hn])
end Go.Proofs.YtnilempeldlieaaGreat
namespace Go.Proofs.YtnilempeldlieaaGreat
open Go.RowKit Flt
set_option maxRecDepth 100000
theorem pr_after13 {w w1 : World} {b base B : Nat} {h : Hp} {A : Option Addr} {c : Nat} {s : Int} {n : Nat} {SA : Option Addr} {da : Nat} {r : Rs} {e : Ending} {w' : World} (hb : Below w.heap.size w w1) (_ : base ≤ w.heap.size) (p : Pr13 w1 b B s n SA da r e w') (hBB : B = w1.heap.size := by rfl) : Po13 w b h A c s n SA da r e w' := by
  obtain ⟨h1, h2, h3⟩ := p
  refine ⟨(onl_below13 hb).trans h1, h2, fun h => ?_⟩
  obtain ⟨e1, A, c, k1, k2⟩ := h3 h
  exact ⟨e1, A, c, k1, .inr (k2.lower (by rw [hBB]; exact hb.size))⟩
theorem s64_in13 {n : Nat} (h : n < 18446744073709551616) : In64 (s64 n) := by
  unfold In64 s64
  split <;> omega
theorem of_in13 (n : Int) : In64 (fOf n) := by
  unfold fOf
  split
  · unfold theNaN In64; omega
  · exact s64_in13 (by have := floatOfInt_wf .f64 n; simpa [Lit.wf] using this)
theorem fl_in13 {h : Hp} {v x : Int} (wd : ∀ o ∈ h.objs, In64 o.bits) (hv : hasB h.objs.length v = true) (e : fl13 h v = some x) : In64 x := by
  cases hn : nB v
  · rw [fl_ref13 hn] at e
    split at e
    · injection e with e
      obtain ⟨i, -, -, ho⟩ := obAt_get (has_ref13 hv hn)
      rw [← e]
      exact wd _ (List.mem_of_getElem? ho)
    · cases e
  · rw [fl_num13 hn] at e
    injection e with e
    rw [← e]
    exact of_in13 _
theorem tr_small13 {a : Int} (h : tb a = true) : smB (fTr a) = true := by
  unfold fTr
  rw [if_pos h]
  unfold tb at h
  simp only [Bool.and_eq_true, decide_eq_true_eq] at h
  exact smB_iff.2 ⟨by omega, by omega⟩
set_option maxHeartbeats 1000000 in
theorem trunc_any13 (b base : Nat) (h : Hp) (A : Option Addr) (c : Nat) (s : Int) (args : List Int) (SA : Option Addr) (da : Nat) (w : World) (I : In13 w b base h A c s args SA da) :
    Calls Tryz.prog 155 #[.pointer (some ⟨b, 0, none⟩)] w (Po13 w b h A c s args.length SA da (match fl13 h s with | none => fa13 h | some x => if tb x then in13 h (fTr x) else fa13 h)) := by
  have HI := hid I
  obtain ⟨x0, x1, x2, x3, x4⟩ := I.box.c5
  have HA := hid (fltd_any13 b base h A c s args SA da w I I.has)
  clear I
  obtain ⟨rr, hrr⟩ : ∃ r : Rs, r = (match fl13 h s with | none => fa13 h | some x => if tb x then in13 h (fTr x) else fa13 h) := ⟨_, rfl⟩
  rw [← hrr]
  have HRR := hid hrr
  clear hrr
  go_enter Tryz.func155, Tryz.ntmps155
  go_wp2_with fail
  refine HA.out.mono ?_
  rintro e w1 ⟨hb, k1, k2⟩
  rcases hx : fl13 h s with _ | x
  · obtain rfl := k1 hx
    exact ⟨rfl, pr_stop13 hb (by rw [HRR.out, hx]; rfl) (by decide)⟩
  · obtain rfl := k2 x hx
    have HX := hid hx
    have HB := hid hb
    have H64 := hid (fl_in13 HI.out.wd HI.out.has hx)
    clear k1 k2 hx hb x0 x1 x2 x3 x4
    cases ht : tb x
    · go_wp2_with (first | (go_at_call 198; refine (trunc_any x H64.out _).mono ?_; rintro e w9 ⟨rfl, rfl⟩) | (go_at_call 74; refine (fail_any13 _).mono ?_; rintro e w9 ⟨rfl, rfl⟩))
      exact ⟨rfl, pr_stop13 HB.out (by rw [HRR.out, HX.out]; simp [ht, fa13]) (by decide)⟩
    · have SM := hid (tr_small13 ht)
      go_wp2_with (first | (go_at_call 198; refine (trunc_any x H64.out _).mono ?_; rintro e w9 ⟨rfl, rfl⟩) | (go_at_call 177; refine (small_ok13 SM.out _).mono ?_; rintro e w9 ⟨rfl, rfl⟩))
      go_ret
      exact pr_keep13 HI.out HB.out (by rw [HRR.out, HX.out]; simp only [ht, if_true]; exact in_ok13 SM.out)
set_option maxHeartbeats 1000000 in
theorem float_any13 (b base : Nat) (h : Hp) (A : Option Addr) (c : Nat) (s : Int) (args : List Int) (SA : Option Addr) (da : Nat) (w : World) (I : In13 w b base h A c s args SA da) :
    Calls Tryz.prog 156 #[.pointer (some ⟨b, 0, none⟩)] w (Po13 w b h A c s args.length SA da (match fl13 h s with | none => fa13 h | some x => nf13 h x)) := by
  have HI := hid I
  obtain ⟨x0, x1, x2, x3, x4⟩ := I.box.c5
  have HA := hid (fltd_any13 b base h A c s args SA da w I I.has)
  clear I
  obtain ⟨rr, hrr⟩ : ∃ r : Rs, r = (match fl13 h s with | none => fa13 h | some x => nf13 h x) := ⟨_, rfl⟩
  rw [← hrr]
  have HRR := hid hrr
  clear hrr
  go_enter Tryz.func156, Tryz.ntmps156
  go_wp2_with fail
  refine HA.out.mono ?_
  rintro e w1 ⟨hb, k1, k2⟩
  rcases hx : fl13 h s with _ | x
  · obtain rfl := k1 hx
    exact ⟨rfl, pr_stop13 hb (by rw [HRR.out, hx]; rfl) (by decide)⟩
  · obtain rfl := k2 x hx
    have HR2 : Hid (rr = nf13 h x) := by show _ = _; rw [HRR.out, hx]
    have HB := hid hb
    clear k1 k2 hx hb x0 x1 x2 x3 x4
    go_wp2_with fail
    refine (newfloat_any13 b base h A c s args SA da _ (HI.out.later HB.out) x).mono ?_
    rintro e w2 PP
    have PQ := hid (pr_after13 (h := h) (A := A) (c := c) HB.out HI.out.low PP)
    rw [← HR2.out] at PQ
    by_cases h0 : rr.2.2 = 0
    · obtain ⟨rfl, hh⟩ := PQ.out.2.2 h0
      clear hh PP
      go_wp2_with fail
      go_ret
      exact PQ.out
    · obtain rfl := PQ.out.2.1 h0
      exact ⟨rfl, PQ.out⟩
theorem pr_then13 {w w1 : World} {b : Nat} {h : Hp} {A : Option Addr} {c : Nat} {s : Int} {n : Nat} {SA : Option Addr} {da : Nat} {r : Rs} {e : Ending} {w' : World} (hb : Below w.heap.size w w1) (p : Po13 w1 b h A c s n SA da r e w') : Po13 w b h A c s n SA da r e w' := by
  obtain ⟨h1, h2, h3⟩ := p
  refine ⟨(onl_below13 hb).trans h1, h2, fun h => ?_⟩
  obtain ⟨e1, A, c, k1, k2⟩ := h3 h
  exact ⟨e1, A, c, k1, k2.imp id (fun k => k.lower hb.size)⟩
theorem sl_is13 {h : Hp} {s : Int} (hl : 3 ≤ (obAt h s).slots.length) : sl9 h s 2 = (obAt h s).slots.getD (2 : Int).toNat 0 := by
  have := sl_at9 (h := h) (c := s) (k := 2) (by omega)
  show _ = (obAt h s).slots.getD 2 0
  rw [List.getD_eq_getElem?_getD, this]
  rfl
theorem cl_size13 {h : Hp} {s : Int} (hc : clB9 h s = true) : plE h s 0 2 = 0 ∧ geV h s 2 = sl9 h s 2 ∧ nB (sl9 h s 2) = true := by
  unfold clB9 at hc
  simp only [Bool.and_eq_true, decide_eq_true_eq] at hc
  obtain ⟨hm, hr, hk, hl, -, -, hn, -⟩ := hc
  have e : plE h s 0 2 = 0 := by
    unfold plE
    rw [if_neg (by rw [hm]; decide), if_neg (by rw [hr]; decide), if_neg (by rw [hk]; decide), if_neg]
    unfold szO
    rw [if_neg (by decide)]
    omega
  refine ⟨e, ?_, hn⟩
  unfold geV
  rw [if_pos e]
  exact (sl_is13 hl).symm
set_option maxHeartbeats 1000000 in
theorem instance_any13 (b base : Nat) (h : Hp) (A : Option Addr) (c : Nat) (s : Int) (args : List Int) (SA : Option Addr) (da : Nat) (w : World) (I : In13 w b base h A c s args SA da) :
    Calls Tryz.prog 145 #[.pointer (some ⟨b, 0, none⟩)] w (Po13 w b h A c s args.length SA da (if clB9 h s = false then fa13 h else al13 h s 0 (nV (sl9 h s 2)))) := by
  have HI := hid I
  clear I
  obtain ⟨rr, hrr⟩ : ∃ r : Rs, r = (if clB9 h s = false then fa13 h else al13 h s 0 (nV (sl9 h s 2))) := ⟨_, rfl⟩
  rw [← hrr]
  have HRR := hid hrr
  clear hrr
  cases hc : clB9 h s
  · go_enter Tryz.func145, Tryz.ntmps145
    go_wp2_with fail
    refine (need_no13 b base h A c s args SA da w HI.out hc).mono ?_
    rintro e w1 ⟨rfl, hb⟩
    exact ⟨rfl, pr_stop13 hb (by rw [HRR.out, if_pos hc]; rfl) (by decide)⟩
  obtain ⟨pe, ge, nb⟩ := cl_size13 hc
  obtain ⟨sz, hsz⟩ : ∃ v, v = sl9 h s 2 := ⟨_, rfl⟩
  rw [← hsz] at ge nb
  have HR2 : Hid (rr = al13 h s 0 (nV sz)) := by show _ = _; rw [HRR.out, if_neg (by rw [hc]; decide), hsz]
  have HE0 : Hid ((al13 h s 0 (nV sz)).2.2 = rr.2.2) := by show _ = _; rw [HR2.out]
  have PE := hid pe
  have GE := hid ge
  clear pe ge hsz
  go_enter Tryz.func145, Tryz.ntmps145
  go_wp2_with fail
  refine (need_ok13 b base h A c s args SA da w HI.out hc).mono ?_
  rintro e w1 ⟨rfl, hb⟩
  have I1 := hid (HI.out.later hb)
  have HB := hid hb
  clear hb
  obtain ⟨x0, x1, x2, x3, x4⟩ := I1.out.box.c5
  by_cases h0 : rr.2.2 = 0
  · go_upto_region 2 with fail
    have BB0 := hid ((Below.refl w1.heap.size w1).drew)
    refine wp_region_held_drew (S := (fun w' => w'.cell? ⟨b, 3, none⟩ = some (.int .i64 s) ∧ Onl13 b w1 w')) (by kernel_rfl) ?_ (fun hH0 => ?_)
    · exact ⟨dcJ x3, onl_below13 (Below.refl _ _).drew⟩
    refine tkJ 0 oPK130 ?_
    refine tkJ 1 oPK131 ?_
    refine tkJ 2 oPK132 ?_
    refine tkJ 3 oPK133 ?_
    refine tkJ 4 oPK134 ?_
    refine tkJ 5 oPK135 ?_
    refine tkJ 6 oPK136 ?_
    refine tkJ 7 oPK137 ?_
    refine tkJ 9 oPK138 ?_
    refine tkJ 10 oPK139 ?_
    refine tkJ 11 oPK1310 ?_
    refine tkJ 12 oPK1311 ?_
    refine rdJ 8 oPK1312 fun K hK => ?_
    have z0 := dcJ x0
    have z1 := dcJ x1
    have z2 := dcJ x2
    go_simp
    refine hK.out _ _ ?_ (fun hH1 => ?_)
    · exact hH0
    clear hK K
    try simp only [apt12]
    clear z0 z1 z2
    refine rdJ 13 oPK1313 fun K hK => ?_
    go_simp
    go_at_call 181
    refine (get_any h s 2 A c _ (I1.out.own.obs.below BB0.out) I1.out.fit).mono ?_
    rintro e u2 ⟨rfl, hb⟩
    rw [GE.out, PE.out]
    have BB1 := hid (then_w BB0.out hb)
    refine hK.out _ _ ?_ (fun hH2 => ?_)
    · exact ⟨cell_later hb hH1.1, (hH1.2).trans (onl_below13 hb)⟩
    clear hK K
    try simp only [apt12]
    clear hb
    refine tkJ 14 oPK1314 ?_
    refine tkJ 15 oPK1315 ?_
    refine rdJ 16 oPK1316 fun K hK => ?_
    go_simp
    go_at_call 180
    refine (checked_ok13 _ _).mono ?_
    rintro e u3 ⟨rfl, rfl⟩
    refine hK.out _ _ ?_ (fun hH3 => ?_)
    · exact hH2
    clear hK K
    try simp only [apt12]
    refine rdJ 17 oPK1317 fun K hK => ?_
    go_simp
    go_at_call 178
    refine (num_ok13 nb _).mono ?_
    rintro e u4 ⟨rfl, rfl⟩
    refine hK.out _ _ ?_ (fun hH4 => ?_)
    · exact hH3
    clear hK K
    try simp only [apt12]
    refine rdJ 18 oPK1318 fun K hK => ?_
    go_simp
    go_at_call 187
    refine (palloc_any13 b base h A c s args SA da _ (I1.out.later BB1.out) s 0 (nV sz)).mono ?_
    rintro e u5 PP
    have PQ := hid (pr_after13 (h := h) (A := A) (c := c) BB1.out I1.out.low PP)
    obtain ⟨rfl, A2, c2, kc, kf⟩ := PP.2.2 (by rw [HE0.out]; exact h0)
    refine hK.out _ _ ?_ (fun hH5 => ?_)
    · exact ⟨kc.cell 3, (hH4.2).trans PP.1⟩
    clear hK K
    try simp only [apt12]
    clear PP kc kf
    refine tkJ 19 ⟨some 2, .assign (.tmp 23), 3, "prim.go:194", #[⟨18, .data⟩, ⟨18, .chain⟩, ⟨0, .phase⟩, ⟨1, .phase⟩, ⟨2, .phase⟩, ⟨3, .phase⟩, ⟨4, .phase⟩, ⟨5, .phase⟩, ⟨6, .phase⟩, ⟨7, .phase⟩, ⟨8, .phase⟩, ⟨9, .phase⟩, ⟨10, .phase⟩, ⟨11, .phase⟩, ⟨12, .phase⟩, ⟨13, .phase⟩, ⟨14, .phase⟩, ⟨15, .phase⟩, ⟨16, .phase⟩, ⟨17, .phase⟩, ⟨18, .phase⟩], none⟩ ?_
    refine wpAnyH_done (by kernel_rfl) ?_ _
    go_wp2_with fail
    go_ret
    rw [HR2.out]
    exact pr_then13 HB.out PQ.out
  go_upto_region 2 with fail
  have BB0 := hid ((Below.refl w1.heap.size w1).drew)
  refine wp_region_held_drew (S := (fun w' => w'.cell? ⟨b, 3, none⟩ = some (.int .i64 s) ∧ Onl13 b w1 w')) (by kernel_rfl) ?_ (fun hH0 => ?_)
  · exact ⟨dcJ x3, onl_below13 (Below.refl _ _).drew⟩
  refine tkJ 0 oPK130 ?_
  refine tkJ 1 oPK131 ?_
  refine tkJ 2 oPK132 ?_
  refine tkJ 3 oPK133 ?_
  refine tkJ 4 oPK134 ?_
  refine tkJ 5 oPK135 ?_
  refine tkJ 6 oPK136 ?_
  refine tkJ 7 oPK137 ?_
  refine tkJ 9 oPK138 ?_
  refine tkJ 10 oPK139 ?_
  refine tkJ 11 oPK1310 ?_
  refine tkJ 12 oPK1311 ?_
  refine rdJ 8 oPK1312 fun K hK => ?_
  have z0 := dcJ x0
  have z1 := dcJ x1
  have z2 := dcJ x2
  go_simp
  refine hK.out _ _ ?_ (fun hH1 => ?_)
  · exact hH0
  clear hK K
  try simp only [apt12]
  clear z0 z1 z2
  refine rdJ 13 oPK1313 fun K hK => ?_
  go_simp
  go_at_call 181
  refine (get_any h s 2 A c _ (I1.out.own.obs.below BB0.out) I1.out.fit).mono ?_
  rintro e u2 ⟨rfl, hb⟩
  rw [GE.out, PE.out]
  have BB1 := hid (then_w BB0.out hb)
  refine hK.out _ _ ?_ (fun hH2 => ?_)
  · exact ⟨cell_later hb hH1.1, (hH1.2).trans (onl_below13 hb)⟩
  clear hK K
  try simp only [apt12]
  clear hb
  refine tkJ 14 oPK1314 ?_
  refine tkJ 15 oPK1315 ?_
  refine rdJ 16 oPK1316 fun K hK => ?_
  go_simp
  go_at_call 180
  refine (checked_ok13 _ _).mono ?_
  rintro e u3 ⟨rfl, rfl⟩
  refine hK.out _ _ ?_ (fun hH3 => ?_)
  · exact hH2
  clear hK K
  try simp only [apt12]
  refine rdJ 17 oPK1317 fun K hK => ?_
  go_simp
  go_at_call 178
  refine (num_ok13 nb _).mono ?_
  rintro e u4 ⟨rfl, rfl⟩
  refine hK.out _ _ ?_ (fun hH4 => ?_)
  · exact hH3
  clear hK K
  try simp only [apt12]
  refine rdJ 18 oPK1318 fun K hK => ?_
  go_simp
  go_at_call 187
  refine (palloc_any13 b base h A c s args SA da _ (I1.out.later BB1.out) s 0 (nV sz)).mono ?_
  rintro e u5 PP
  have PQ := hid (pr_after13 (h := h) (A := A) (c := c) BB1.out I1.out.low PP)
  obtain rfl := PP.2.1 (by rw [HE0.out]; exact h0)
  exact ⟨rfl, (by rw [HR2.out]; exact pr_then13 HB.out PQ.out)⟩
end Go.Proofs.YtnilempeldlieaaGreat
