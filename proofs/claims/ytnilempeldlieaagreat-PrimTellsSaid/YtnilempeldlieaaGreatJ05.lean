/- The document's answers on what may be: obj, May. Small: whatever a heap has, it answers. Where an object's slot or byte lies, or what is wrong with it: place, wrong; what is read there: Get, Byte, the program's and the document's. What is read of a heap: Get, Byte. -/
import Derived.Test.YtnilempeldlieaaGreatJ04
import Derived.Test.YtnilempeldlieaaGreatJ03
import Derived.Deep.DeepCutAuto
namespace Go.Proofs.YtnilempeldlieaaGreat
abbrev oD0 : Oper := ⟨some 64, .binOp .geq 3 (.tmp 63) (.const (Go.Value.int .i64 0)) 3, 4, "ref.go:38", #[⟨3, .data⟩], none⟩
abbrev oD1 : Oper := ⟨some 65, .move (.tmp 64), 4, "ref.go:38", #[⟨4, .data⟩, ⟨3, .chain⟩], none⟩
abbrev oD2 : Oper := ⟨some 66, .fieldAddr 41 (.tmp 3) 5, 0, "ref.go:38", #[⟨5, .guard⟩], some (5, true)⟩
abbrev oD3 : Oper := ⟨some 67, .load 3 (.tmp 66), 3, "ref.go:38", #[⟨6, .data⟩, ⟨5, .guard⟩], some (5, true)⟩
abbrev oD4 : Oper := ⟨some 68, .call { callee := .value (.func 59), args := #[.tmp 67], argTypes := #[3] }, 4, "ref.go:38", #[⟨7, .data⟩, ⟨5, .chain⟩, ⟨5, .guard⟩], some (5, true)⟩
abbrev oD5 : Oper := ⟨some 69, .pick (.tmp 65) (.tmp 68) (.const (Go.Value.bool false)), 4, "ref.go:38", #[⟨5, .data⟩, ⟨8, .data⟩], none⟩
abbrev oD6 : Oper := ⟨some 70, .move (.tmp 69), 4, "ref.go:38", #[⟨9, .data⟩, ⟨8, .chain⟩], none⟩
abbrev oD7 : Oper := ⟨some 71, .fieldAddr 41 (.tmp 3) 2, 0, "ref.go:38", #[⟨10, .guard⟩], some (10, true)⟩
abbrev oD8 : Oper := ⟨some 72, .load 34 (.tmp 71), 34, "ref.go:38", #[⟨11, .data⟩, ⟨10, .guard⟩], some (10, true)⟩
abbrev oD9 : Oper := ⟨some 73, .call { callee := .builtin .len, args := #[.tmp 72], argTypes := #[34] }, 3, "ref.go:38", #[⟨12, .data⟩, ⟨10, .guard⟩], some (10, true)⟩
abbrev oD10 : Oper := ⟨some 74, .binOp .leq 3 (.tmp 73) (.const (Go.Value.int .i64 64)) 3, 4, "ref.go:38", #[⟨13, .data⟩, ⟨10, .guard⟩], some (10, true)⟩
abbrev oD11 : Oper := ⟨some 75, .pick (.tmp 70) (.tmp 74) (.const (Go.Value.bool false)), 4, "ref.go:38", #[⟨10, .data⟩, ⟨14, .data⟩], none⟩
abbrev oD12 : Oper := ⟨some 76, .move (.tmp 75), 4, "ref.go:38", #[⟨15, .data⟩, ⟨10, .chain⟩], none⟩
abbrev oD13 : Oper := ⟨some 77, .fieldAddr 41 (.tmp 3) 3, 0, "ref.go:38", #[⟨16, .guard⟩], some (16, true)⟩
abbrev oD14 : Oper := ⟨some 78, .load 9 (.tmp 77), 9, "ref.go:38", #[⟨17, .data⟩, ⟨16, .guard⟩], some (16, true)⟩
abbrev oD15 : Oper := ⟨some 79, .call { callee := .builtin .len, args := #[.tmp 78], argTypes := #[9] }, 3, "ref.go:38", #[⟨18, .data⟩, ⟨16, .guard⟩], some (16, true)⟩
abbrev oD16 : Oper := ⟨some 80, .binOp .leq 3 (.tmp 79) (.const (Go.Value.int .i64 64)) 3, 4, "ref.go:38", #[⟨19, .data⟩, ⟨16, .guard⟩], some (16, true)⟩
abbrev oD17 : Oper := ⟨some 81, .pick (.tmp 76) (.tmp 80) (.const (Go.Value.bool false)), 4, "ref.go:38", #[⟨16, .data⟩, ⟨20, .data⟩], none⟩
abbrev oD18 : Oper := ⟨some 82, .move (.tmp 81), 4, "ref.go:38", #[⟨21, .data⟩, ⟨16, .chain⟩], none⟩
abbrev oD19 : Oper := ⟨some 83, .fieldAddr 41 (.tmp 3) 4, 0, "ref.go:38", #[⟨22, .guard⟩], some (22, true)⟩
abbrev oD20 : Oper := ⟨some 84, .load 3 (.tmp 83), 3, "ref.go:38", #[⟨23, .data⟩, ⟨22, .guard⟩], some (22, true)⟩
abbrev oD21 : Oper := ⟨some 86, .fieldAddr 41 (.tmp 3) 4, 0, "ref.go:38", #[⟨22, .guard⟩], some (22, true)⟩
abbrev oD22 : Oper := ⟨some 87, .load 3 (.tmp 86), 3, "ref.go:38", #[⟨26, .data⟩, ⟨22, .guard⟩], some (22, true)⟩
abbrev oD23 : Oper := ⟨some 85, .call { callee := .value (.func 111), args := #[.tmp 84], argTypes := #[3] }, 3, "ref.go:38", #[⟨24, .data⟩, ⟨22, .chain⟩, ⟨22, .guard⟩], some (22, true)⟩
abbrev oD24 : Oper := ⟨some 88, .binOp .eql 3 (.tmp 85) (.tmp 87) 3, 4, "ref.go:38", #[⟨25, .data⟩, ⟨27, .data⟩, ⟨22, .guard⟩], some (22, true)⟩
abbrev oD25 : Oper := ⟨some 89, .pick (.tmp 82) (.tmp 88) (.const (Go.Value.bool false)), 4, "ref.go:38", #[⟨22, .data⟩, ⟨28, .data⟩], none⟩
abbrev oD26 : Oper := ⟨some 4, .assign (.tmp 89), 4, "ref.go:38", #[⟨29, .data⟩, ⟨25, .chain⟩, ⟨0, .phase⟩, ⟨1, .phase⟩, ⟨2, .phase⟩, ⟨3, .phase⟩, ⟨4, .phase⟩, ⟨5, .phase⟩, ⟨6, .phase⟩, ⟨7, .phase⟩, ⟨8, .phase⟩, ⟨9, .phase⟩, ⟨10, .phase⟩, ⟨11, .phase⟩, ⟨12, .phase⟩, ⟨13, .phase⟩, ⟨14, .phase⟩, ⟨15, .phase⟩, ⟨16, .phase⟩, ⟨17, .phase⟩, ⟨18, .phase⟩, ⟨19, .phase⟩, ⟨20, .phase⟩, ⟨21, .phase⟩, ⟨22, .phase⟩, ⟨23, .phase⟩, ⟨24, .phase⟩, ⟨25, .phase⟩, ⟨26, .phase⟩, ⟨27, .phase⟩, ⟨28, .phase⟩, ⟨29, .phase⟩], none⟩
open Go.RowKit
theorem size_nil {s : ByteArray} (h : s.toList = []) : s.size = 0 := by
  rw [ByteArray.toList_eq] at h
  have := congrArg List.length h
  rw [Array.length_toList] at this
  exact this
set_option maxRecDepth 100000 in
set_option maxHeartbeats 40000000 in
theorem robj_any (h : Hp) (o : Ob) (S : Option Addr) (d : Nat) (A : Option Addr) (c : Nat) (w : World) (hs : IntsR w S o.slots) (hl : o.slots.length ≤ 9223372036854775807) :
    Calls Tryz.prog 58 #[.agg #[.slice A h.objs.length c, .int .i64 h.cap, .int .i64 h.last], .agg #[.int .i64 o.cls, .int .i64 o.kind, .slice S o.slots.length d, .string o.text, .int .i64 o.bits, .int .i64 o.hash]] w fun e w' => e = .returned (.bool (obB h.objs.length o)) ∧ Below w.heap.size w w' := by
  have HB0 := hid (below_alloc2 w (.cells #[Value.slice A h.objs.length c, Value.int .i64 h.cap, Value.int .i64 h.last] 24) (.cells #[.int .i64 o.cls, .int .i64 o.kind, .slice S o.slots.length d, .string o.text, .int .i64 o.bits, .int .i64 o.hash] 41))
  have HX := hid ((BoxH.new w h A c).later (below_alloc _ (.cells #[.int .i64 o.cls, .int .i64 o.kind, .slice S o.slots.length d, .string o.text, .int .i64 o.bits, .int .i64 o.hash] 41)))
  have HY := hid (BoxO.new (w.alloc (.cells #[Value.slice A h.objs.length c, Value.int .i64 h.cap, Value.int .i64 h.last] 24)) o S d)
  have HS := hid hs
  clear hs
  go_enter Tryz.func58, Tryz.ntmps58
  go_wp2
  go_loopw [5] (fun i wr => ∃ k : Nat, k ≤ o.slots.length ∧ i = .int .i64 k ∧ (o.slots.take k).all (hasB h.objs.length) = true ∧ Below w.heap.size w wr ∧ BoxH wr w.heap.size h A c ∧ BoxO wr (w.heap.size + 1) o S d) (fun i _ => o.slots.length - (intOf i).toNat)
  case atStart => exact ⟨0, Nat.zero_le _, rfl, rfl, HB0.out, HX.out, by simpa using HY.out⟩
  case round =>
    obtain ⟨k, hk, rfl, hall, hbw, hX, hY⟩ := hrel
    have HA := hid hall
    have HW := hid hbw
    have HX' := hid hX
    have HY' := hid hY
    clear hall hbw HX HY
    by_cases hlt : k < o.slots.length
    next =>
     obtain ⟨e0, e1, e2⟩ := hX
     obtain ⟨f0, f1, f2, f3, f4, f5⟩ := hY
     obtain ⟨bs, os, rfl, hbs, hcs⟩ := HS.out (by omega)
     have hcell : wr.cell? ⟨bs, os + k, none⟩ = some (.int .i64 o.slots[k]) := (HW.out.cell (p := ⟨bs, os + k, none⟩) hbs).trans (hcs k _ (List.getElem?_eq_getElem hlt))
     have HT : Hid ((o.slots.take (k + 1)).all (hasB h.objs.length) = ((o.slots.take k).all (hasB h.objs.length) && hasB h.objs.length o.slots[k])) := by
       show _ = _
       rw [List.take_succ_eq_append_getElem hlt, List.all_append]; simp
     clear hcs
     go_wp2
     go_region_held3 (fun w' => w'.cell? ⟨w.heap.size, 0, none⟩ = some (.slice A h.objs.length c) ∧ w'.cell? ⟨w.heap.size, 1, none⟩ = some (.int .i64 h.cap) ∧ w'.cell? ⟨w.heap.size, 2, none⟩ = some (.int .i64 h.last) ∧
         w'.cell? ⟨w.heap.size + 1, 2, none⟩ = some (.slice (some ⟨bs, os, none⟩) o.slots.length d) ∧ w'.cell? ⟨bs, os + k, none⟩ = some (.int .i64 o.slots[k]) ∧ Below wr.heap.size wr w')
       (first | exact ⟨e0, e1, e2, f2, hcell, (Below.refl _ _).drew⟩ | exact ⟨cell_later hb e0, cell_later hb e1, cell_later hb e2, cell_later hb f2, cell_later hb hcell, (Below.refl _ _).drew.trans hb⟩)
       (first | (go_at_call 35; refine (rhas_any h _ A c _).mono ?_; rintro e w' ⟨rfl, hb⟩))
     cases hv : hasB h.objs.length o.slots[k]
     next =>
      go_wp2
      go_ret
      refine ⟨ret_bool ?_, HW.out.drew.trans (hb.mono HW.out.size)⟩
      have : o.slots.all (hasB h.objs.length) = false := by
        cases hx : o.slots.all (hasB h.objs.length)
        next =>
         rfl
        next =>
         have := List.all_eq_true.1 hx o.slots[k] (List.getElem_mem hlt)
         rw [hv] at this; cases this
      simp [obB, this]
     next =>
      go_wp2
      go_roundw
      case rel => exact ⟨k + 1, by omega, by go_num, by rw [HT.out, HA.out, hv]; rfl, HW.out.drew.trans (hb.mono HW.out.size), HX'.out.later ((Below.refl _ _).drew.trans hb), HY'.out.later ((Below.refl _ _).drew.trans hb)⟩
      case measure => simp [intOf]; omega
    next =>
     obtain ⟨e0, e1, e2⟩ := hX
     obtain ⟨f0, f1, f2, f3, f4, f5⟩ := hY
     have HO : Hid (obB h.objs.length o = (refB h.objs.length o.cls && haB o.hash && kiB o)) := by
       have hk' : k = o.slots.length := by omega
       have := HA.out
       rw [hk', List.take_length] at this
       show _ = _
       simp [obB, this]
     obtain rfl : k = o.slots.length := by omega
     clear hlt hk
     go_upto_region 6 with fail
     go_cut [59] (fun s wx => wr = wx ∧ ∃ b : Bool, s = .bool b ∧ (b = true → kiB o = false) ∧ (b = false → kiB o = (decide ((o.slots.length : Int) ≤ 64) && decide ((o.text.size : Int) ≤ 64) && (canon o.bits == o.bits))))
     case first =>
       by_cases g0 : o.kind < 0
       next =>
        go_wp2_with fail
        go_meet
        exact ⟨rfl, true, rfl, fun _ => by simp [kiB, show ¬ o.kind = 0 by omega, show ¬ o.kind = 1 by omega, show ¬ o.kind = 2 by omega], fun g => by cases g⟩
       have g0' : 0 ≤ o.kind := by omega
       clear g0
       by_cases g1 : 2 < o.kind
       next =>
        go_wp2_with fail
        go_meet
        exact ⟨rfl, true, rfl, fun _ => by simp [kiB, show ¬ o.kind = 0 by omega, show ¬ o.kind = 1 by omega, show ¬ o.kind = 2 by omega], fun g => by cases g⟩
       have g1' : o.kind ≤ 2 := by omega
       clear g1
       rcases (show o.kind = 0 ∨ o.kind = 1 ∨ o.kind = 2 by omega) with kk | kk | kk
       next =>
        have z0 : (o.kind != 0) = false := by simp [kk]
        have z1 : (o.kind != 1) = true := by simp [kk]
        have z2 : (o.kind != 2) = true := by simp [kk]
        have KK := hid kk
        clear kk
        by_cases x1 : o.text.toList = []
        next =>
         have x1a : o.text.toList.isEmpty = true := by rw [x1]; rfl
         have X1 := hid x1
         clear x1
         by_cases x2 : o.bits = 0
         next =>
          have x2a : (o.bits != 0) = false := by simpa using x2
          have X2 := hid x2
          clear x2
          go_wp2_with fail
          go_meet
          exact ⟨rfl, _, rfl, fun g => absurd g (by first | (simp; done) | (simp; omega)), fun _ => by simp [kiB, KK.out, X1.out, X2.out, size_nil X1.out, canon, infR, rg]⟩
         next =>
          have x2a : (o.bits != 0) = true := by simpa using x2
          have X2 := hid x2
          clear x2
          go_wp2_with fail
          go_meet
          exact ⟨rfl, _, rfl, fun _ => by simp [kiB, KK.out, X1.out, X2.out], fun g => absurd g (by first | (simp; done) | (simp; omega))⟩
        next =>
         have x1a : o.text.toList.isEmpty = false := by simpa using x1
         have X1 := hid x1
         clear x1
         go_wp2_with fail
         go_meet
         exact ⟨rfl, _, rfl, fun _ => by simp [kiB, KK.out, X1.out], fun g => absurd g (by first | (simp; done) | (simp; omega))⟩
       next =>
        have z0 : (o.kind != 0) = true := by simp [kk]
        have z1 : (o.kind != 1) = false := by simp [kk]
        have z2 : (o.kind != 2) = true := by simp [kk]
        have KK := hid kk
        clear kk
        by_cases x3 : o.slots = []
        next =>
         have x3b : decide (0 < o.slots.length) = false := by simp [x3]
         have X3 := hid x3
         clear x3
         by_cases x2 : o.bits = 0
         next =>
          have x2a : (o.bits != 0) = false := by simpa using x2
          have X2 := hid x2
          clear x2
          go_wp2_with fail
          go_meet
          exact ⟨rfl, _, rfl, fun g => absurd g (by first | (simp; done) | (simp; omega)), fun _ => by simp [kiB, KK.out, X3.out, X2.out, canon, infR, rg]⟩
         next =>
          have x2a : (o.bits != 0) = true := by simpa using x2
          have X2 := hid x2
          clear x2
          go_wp2_with fail
          go_meet
          exact ⟨rfl, _, rfl, fun _ => by simp [kiB, KK.out, X3.out, X2.out], fun g => absurd g (by first | (simp; done) | (simp; omega))⟩
        next =>
         have x3b : decide (0 < o.slots.length) = true := by have := List.length_pos_iff.2 x3; simpa using this
         have X3 := hid x3
         clear x3
         go_wp2_with fail
         go_meet
         exact ⟨rfl, _, rfl, fun _ => by simp [kiB, KK.out, X3.out], fun g => absurd g (by first | (simp; done) | (simp; omega))⟩
       next =>
        have z0 : (o.kind != 0) = true := by simp [kk]
        have z1 : (o.kind != 1) = true := by simp [kk]
        have z2 : (o.kind != 2) = false := by simp [kk]
        have KK := hid kk
        clear kk
        by_cases x3 : o.slots = []
        next =>
         have x3b : decide (0 < o.slots.length) = false := by simp [x3]
         have X3 := hid x3
         clear x3
         by_cases x1 : o.text.toList = []
         next =>
          have x1a : o.text.toList.isEmpty = true := by rw [x1]; rfl
          have X1 := hid x1
          clear x1
          go_wp2_with fail
          go_meet
          exact ⟨rfl, _, rfl, fun g => absurd g (by first | (simp; done) | (simp; omega)), fun _ => by simp [kiB, KK.out, X3.out, X1.out, size_nil X1.out]; exact Bool.beq_comm⟩
         next =>
          have x1a : o.text.toList.isEmpty = false := by simpa using x1
          have X1 := hid x1
          clear x1
          go_wp2_with fail
          go_meet
          exact ⟨rfl, _, rfl, fun _ => by simp [kiB, KK.out, X3.out, X1.out], fun g => absurd g (by first | (simp; done) | (simp; omega))⟩
        next =>
         have x3b : decide (0 < o.slots.length) = true := by have := List.length_pos_iff.2 x3; simpa using this
         have X3 := hid x3
         clear x3
         go_wp2_with fail
         go_meet
         exact ⟨rfl, _, rfl, fun _ => by simp [kiB, KK.out, X3.out], fun g => absurd g (by first | (simp; done) | (simp; omega))⟩
     case rest =>
       obtain ⟨rfl, b, rfl, hkt, hkf⟩ := hcut
       cases b
       next =>
        have HK := hid (hkf rfl)
        have E := hid (And.intro e0 (And.intro e1 (And.intro e2 (And.intro f0 (And.intro f2 (And.intro f3 (And.intro f4 f5)))))))
        clear hkt hkf HA HX' HY' HS HB0 f1
        go_wp2
        clear e0 e1 e2 f0 f2 f3 f4 f5
        refine wp_region_held_drew (S := (fun w' => w'.cell? ⟨w.heap.size, 0, none⟩ = some (.slice A h.objs.length c) ∧ w'.cell? ⟨w.heap.size, 1, none⟩ = some (.int .i64 h.cap) ∧ w'.cell? ⟨w.heap.size, 2, none⟩ = some (.int .i64 h.last) ∧
            w'.cell? ⟨w.heap.size + 1, 0, none⟩ = some (.int .i64 o.cls) ∧ w'.cell? ⟨w.heap.size + 1, 2, none⟩ = some (.slice S o.slots.length d) ∧ w'.cell? ⟨w.heap.size + 1, 3, none⟩ = some (.string o.text) ∧ w'.cell? ⟨w.heap.size + 1, 4, none⟩ = some (.int .i64 o.bits) ∧ w'.cell? ⟨w.heap.size + 1, 5, none⟩ = some (.int .i64 o.hash) ∧ Below wr.heap.size wr w')) (by kernel_rfl) ?_ (fun hHeld => ?_)
        next =>
         exact ⟨E.out.1, E.out.2.1, E.out.2.2.1, E.out.2.2.2.1, E.out.2.2.2.2.1, E.out.2.2.2.2.2.1, E.out.2.2.2.2.2.2.1, E.out.2.2.2.2.2.2.2, (Below.refl _ _).drew⟩
        refine tkJ 0 ⟨some 60, .load 24 (.tmp 2), 24, "ref.go:38", #[], none⟩ ?_
        refine tkJ 1 ⟨some 61, .fieldAddr 41 (.tmp 3) 0, 0, "ref.go:38", #[], none⟩ ?_
        refine tkJ 2 ⟨some 62, .load 3 (.tmp 61), 3, "ref.go:38", #[⟨1, .data⟩], none⟩ ?_
        refine rdJ 3 ⟨some 63, .call { callee := .value (.func 32), args := #[.tmp 60, .tmp 62], argTypes := #[24, 3] }, 3, "ref.go:38", #[⟨0, .data⟩, ⟨2, .data⟩], none⟩ fun K hK => ?_
        go_simp
        go_at_call 32; refine (rref_any h _ A c _).mono ?_; rintro e w' ⟨rfl, hb⟩
        refine hK.out _ _ ?_ (fun hHeld => ?_)
        next =>
         exact ⟨cell_later hb E.out.1, cell_later hb E.out.2.1, cell_later hb E.out.2.2.1, cell_later hb E.out.2.2.2.1, cell_later hb E.out.2.2.2.2.1, cell_later hb E.out.2.2.2.2.2.1, cell_later hb E.out.2.2.2.2.2.2.1, cell_later hb E.out.2.2.2.2.2.2.2, (Below.refl _ _).drew.trans hb⟩
        clear hK K
        try simp only [apt12]
        by_cases x4 : refB h.objs.length o.cls = true
        next =>
         have x4a : decide (0 ≤ refI h.objs.length o.cls) = true := by have := refB_no x4; rw [refI_nonneg x4]; simpa using this.2.1
         have X4 := hid x4
         clear x4
         refine tkJ 4 oD0 ?_
         refine tkJ 5 oD1 ?_
         by_cases x5 : haB o.hash = true
         next =>
          have x5a : haB o.hash = true := x5
          have X5 := hid x5
          clear x5
          refine tkJ 6 oD2 ?_
          refine tkJ 7 oD3 ?_
          refine rdJ 8 oD4 fun K hK => ?_
          go_simp
          go_at_call 59; refine (rhash_any _ _).mono ?_; rintro e w'' ⟨rfl, rfl⟩
          refine hK.out _ _ ?_ (fun hHeld => ?_)
          next =>
           assumption
          clear hK K
          try simp only [apt12]
          refine tkJ 9 oD5 ?_
          refine tkJ 10 oD6 ?_
          by_cases x6 : (o.slots.length : Int) ≤ 64
          next =>
           have x6a : decide ((o.slots.length : Int) ≤ 64) = true := by simpa using x6
           have X6 := hid x6
           clear x6
           refine tkJ 11 oD7 ?_
           refine tkJ 12 oD8 ?_
           refine tkJ 13 oD9 ?_
           refine tkJ 14 oD10 ?_
           refine tkJ 15 oD11 ?_
           by_cases x7 : (o.text.size : Int) ≤ 64
           next =>
            have x7a : decide ((o.text.size : Int) ≤ 64) = true := by simpa using x7
            have X7 := hid x7
            clear x7
            refine tkJ 16 oD12 ?_
            refine tkJ 17 oD13 ?_
            refine tkJ 18 oD14 ?_
            refine tkJ 19 oD15 ?_
            refine tkJ 20 oD16 ?_
            refine tkJ 21 oD17 ?_
            refine tkJ 22 oD18 ?_
            by_cases x8 : o.bits = canon o.bits
            next =>
             have x8a : (canon o.bits == o.bits) = true := by rw [← x8]; simp
             have X8 := hid x8
             clear x8
             refine tkJ 23 oD19 ?_
             refine tkJ 24 oD20 ?_
             refine tkJ 26 oD21 ?_
             refine tkJ 27 oD22 ?_
             refine rdJ 25 oD23 fun K hK => ?_
             go_simp
             go_at_call 111; refine (rcanon_any _ _).mono ?_; rintro e w'' ⟨rfl, rfl⟩
             refine hK.out _ _ ?_ (fun hHeld => ?_)
             next =>
              assumption
             clear hK K
             try simp only [apt12]
             refine tkJ 28 oD24 ?_
             refine tkJ 29 oD25 ?_
             refine tkJ 30 oD26 ?_
             refine wpAnyH_done (by kernel_rfl) ?_ _
             go_wp2
             go_ret
             exact ⟨ret_bool (by rw [HO.out, HK.out]; simp [X4.out, X5.out, x6a, x7a, x8a]), HW.out.drew.trans (hb.mono HW.out.size)⟩
            next =>
             have x8a : (canon o.bits == o.bits) = false := by simpa using fun e => x8 e.symm
             have X8 := hid x8
             clear x8
             refine tkJ 23 oD19 ?_
             refine tkJ 24 oD20 ?_
             refine tkJ 26 oD21 ?_
             refine tkJ 27 oD22 ?_
             refine rdJ 25 oD23 fun K hK => ?_
             go_simp
             go_at_call 111; refine (rcanon_any _ _).mono ?_; rintro e w'' ⟨rfl, rfl⟩
             refine hK.out _ _ ?_ (fun hHeld => ?_)
             next =>
              assumption
             clear hK K
             try simp only [apt12]
             refine tkJ 28 oD24 ?_
             refine tkJ 29 oD25 ?_
             refine tkJ 30 oD26 ?_
             refine wpAnyH_done (by kernel_rfl) ?_ _
             go_wp2
             go_ret
             exact ⟨ret_bool (by rw [HO.out, HK.out]; simp [X4.out, X5.out, x6a, x7a, x8a]), HW.out.drew.trans (hb.mono HW.out.size)⟩
           next =>
            have x7a : decide ((o.text.size : Int) ≤ 64) = false := by simpa using x7
            have X7 := hid x7
            clear x7
            refine tkJ 16 oD12 ?_
            refine tkJ 17 oD13 ?_
            refine tkJ 18 oD14 ?_
            refine tkJ 19 oD15 ?_
            refine tkJ 20 oD16 ?_
            refine tkJ 21 oD17 ?_
            refine tkJ 22 oD18 ?_
            refine tkP 23 oD19 ?_
            refine tkP 24 oD20 ?_
            refine tkP 25 oD23 ?_
            refine tkP 26 oD21 ?_
            refine tkP 27 oD22 ?_
            refine tkP 28 oD24 ?_
            refine tkJ 29 oD25 ?_
            refine tkJ 30 oD26 ?_
            refine wpAnyH_done (by kernel_rfl) ?_ _
            go_wp2
            go_ret
            exact ⟨ret_bool (by rw [HO.out, HK.out]; simp [X4.out, X5.out, x6a, x7a]), HW.out.drew.trans (hb.mono HW.out.size)⟩
          next =>
           have x6a : decide ((o.slots.length : Int) ≤ 64) = false := by simpa using x6
           have X6 := hid x6
           clear x6
           refine tkJ 11 oD7 ?_
           refine tkJ 12 oD8 ?_
           refine tkJ 13 oD9 ?_
           refine tkJ 14 oD10 ?_
           refine tkJ 15 oD11 ?_
           refine tkJ 16 oD12 ?_
           refine tkP 17 oD13 ?_
           refine tkP 18 oD14 ?_
           refine tkP 19 oD15 ?_
           refine tkP 20 oD16 ?_
           refine tkJ 21 oD17 ?_
           refine tkJ 22 oD18 ?_
           refine tkP 23 oD19 ?_
           refine tkP 24 oD20 ?_
           refine tkP 25 oD23 ?_
           refine tkP 26 oD21 ?_
           refine tkP 27 oD22 ?_
           refine tkP 28 oD24 ?_
           refine tkJ 29 oD25 ?_
           refine tkJ 30 oD26 ?_
           refine wpAnyH_done (by kernel_rfl) ?_ _
           go_wp2
           go_ret
           exact ⟨ret_bool (by rw [HO.out, HK.out]; simp [X4.out, X5.out, x6a]), HW.out.drew.trans (hb.mono HW.out.size)⟩
         next =>
          have x5a : haB o.hash = false := by simpa using x5
          have X5 := hid x5
          clear x5
          refine tkJ 6 oD2 ?_
          refine tkJ 7 oD3 ?_
          refine rdJ 8 oD4 fun K hK => ?_
          go_simp
          go_at_call 59; refine (rhash_any _ _).mono ?_; rintro e w'' ⟨rfl, rfl⟩
          refine hK.out _ _ ?_ (fun hHeld => ?_)
          next =>
           assumption
          clear hK K
          try simp only [apt12]
          refine tkJ 9 oD5 ?_
          refine tkJ 10 oD6 ?_
          refine tkP 11 oD7 ?_
          refine tkP 12 oD8 ?_
          refine tkP 13 oD9 ?_
          refine tkP 14 oD10 ?_
          refine tkJ 15 oD11 ?_
          refine tkJ 16 oD12 ?_
          refine tkP 17 oD13 ?_
          refine tkP 18 oD14 ?_
          refine tkP 19 oD15 ?_
          refine tkP 20 oD16 ?_
          refine tkJ 21 oD17 ?_
          refine tkJ 22 oD18 ?_
          refine tkP 23 oD19 ?_
          refine tkP 24 oD20 ?_
          refine tkP 25 oD23 ?_
          refine tkP 26 oD21 ?_
          refine tkP 27 oD22 ?_
          refine tkP 28 oD24 ?_
          refine tkJ 29 oD25 ?_
          refine tkJ 30 oD26 ?_
          refine wpAnyH_done (by kernel_rfl) ?_ _
          go_wp2
          go_ret
          exact ⟨ret_bool (by rw [HO.out, HK.out]; simp [X4.out, X5.out]), HW.out.drew.trans (hb.mono HW.out.size)⟩
        next =>
         have x4a : decide (0 ≤ refI h.objs.length o.cls) = false := by simp [refI, x4]
         have X4 := hid x4
         clear x4
         refine tkJ 4 oD0 ?_
         refine tkJ 5 oD1 ?_
         refine tkP 6 oD2 ?_
         refine tkP 7 oD3 ?_
         refine tkP 8 oD4 ?_
         refine tkJ 9 oD5 ?_
         refine tkJ 10 oD6 ?_
         refine tkP 11 oD7 ?_
         refine tkP 12 oD8 ?_
         refine tkP 13 oD9 ?_
         refine tkP 14 oD10 ?_
         refine tkJ 15 oD11 ?_
         refine tkJ 16 oD12 ?_
         refine tkP 17 oD13 ?_
         refine tkP 18 oD14 ?_
         refine tkP 19 oD15 ?_
         refine tkP 20 oD16 ?_
         refine tkJ 21 oD17 ?_
         refine tkJ 22 oD18 ?_
         refine tkP 23 oD19 ?_
         refine tkP 24 oD20 ?_
         refine tkP 25 oD23 ?_
         refine tkP 26 oD21 ?_
         refine tkP 27 oD22 ?_
         refine tkP 28 oD24 ?_
         refine tkJ 29 oD25 ?_
         refine tkJ 30 oD26 ?_
         refine wpAnyH_done (by kernel_rfl) ?_ _
         go_wp2
         go_ret
         exact ⟨ret_bool (by rw [HO.out, HK.out]; simp [X4.out]), HW.out.drew.trans (hb.mono HW.out.size)⟩
       next =>
        have HK := hid (hkt rfl)
        clear hkt hkf
        go_wp2
        go_ret
        exact ⟨ret_bool (by rw [HO.out, HK.out]; simp), HW.out⟩
end Go.Proofs.YtnilempeldlieaaGreat
namespace Go.Proofs.YtnilempeldlieaaGreat
open Go.RowKit
def SomeBool (w : World) (e : Ending) (w' : World) : Prop := ∃ b, e = .returned (.bool b) ∧ Below w.heap.size w w'
set_option maxRecDepth 100000 in
set_option maxHeartbeats 4000000 in
theorem small_ok (h : Hp) (A : Option Addr) (c : Nat) (w : World) (hs : ObsR w A h.objs) (fit : h.Fit) :
    Calls Tryz.prog 6 #[.agg #[.slice A h.objs.length c, .int .i64 h.cap, .int .i64 h.last]] w (SomeBool w) := by
  have HB0 := hid (below_alloc w (.cells #[Value.slice A h.objs.length c, Value.int .i64 h.cap, Value.int .i64 h.last] 24))
  have HX := hid (BoxH.new w h A c)
  have HS := hid hs
  have hl : h.objs.length ≤ 9223372036854775807 := fit.1
  clear hs fit
  go_enter Tryz.func6, Tryz.ntmps6
  go_wp2
  go_loopw [3, 4] (fun n i wr => ∃ (k : Nat) (z : Int), k ≤ h.objs.length ∧ i = .int .i64 k ∧ n = .int .i64 z ∧ Below w.heap.size w wr ∧ BoxH wr w.heap.size h A c) (fun _ i _ => h.objs.length - (intOf i).toNat)
  case atStart => exact ⟨0, 0, Nat.zero_le _, rfl, rfl, HB0.out, HX.out⟩
  case round =>
    obtain ⟨k, z, hk, rfl, rfl, hbw, hX⟩ := hrel
    have HW := hid hbw
    have HX' := hid hX
    clear hbw HX
    obtain ⟨e0, -, -⟩ := hX
    by_cases hlt : k < h.objs.length
    · by_cases hz : z < 5000
      · obtain ⟨bs, os, rfl, hbs, hcs⟩ := HS.out (by omega)
        obtain ⟨S, d, hob, hin, _⟩ := hcs k _ (List.getElem?_eq_getElem hlt)
        obtain ⟨c0, c1, c2, c3, c4, c5⟩ := hob.below hbs HW.out
        clear hcs hob hin
        go_wp2
        go_quiet (fail)
        go_wp2
        go_roundw
        case rel => exact ⟨k + 1, _, by omega, by go_num, rfl, below_go HW.out HW.out.size (below_drewN _ _), HX'.out.later (below_drewN _ _)⟩
        case measure => simp [intOf]; omega
      · go_wp2
        all_goals go_ret
        all_goals exact ⟨_, rfl, HW.out⟩
    · go_wp2
      all_goals go_ret
      all_goals exact ⟨_, rfl, HW.out⟩
end Go.Proofs.YtnilempeldlieaaGreat
namespace Go.Proofs.YtnilempeldlieaaGreat
open Go.RowKit
theorem len_nil {s : ByteArray} (h : s.toList = []) : s.size = 0 := by
  rw [ByteArray.toList_eq] at h
  have := congrArg List.length h
  rw [Array.length_toList] at this
  exact this
instance : Inhabited Ob := ⟨⟨0, 0, [], ⟨#[]⟩, 0, 0⟩⟩
def obAt (h : Hp) (v : Int) : Ob := h.objs.getD (atV v).toNat default
def szO (kind : Int) (o : Ob) : Int := if kind = 1 then (o.text.size : Int) else (o.slots.length : Int)
def plE (h : Hp) (v kind k : Int) : Int :=
  if mayB h = false then 1 else if refB h.objs.length v = false then 31 else if (obAt h v).kind ≠ kind then 33 else if k < 0 ∨ szO kind (obAt h v) ≤ k then 32 else 0
def plV (h : Hp) (v kind k : Int) : Int := if plE h v kind k = 0 then atV v else 0
theorem may_all {h : Hp} (hm : mayB h = true) : ∀ o ∈ h.objs, obB h.objs.length o = true := by
  unfold mayB at hm
  simp only [Bool.and_eq_true] at hm
  exact List.all_eq_true.1 hm.2
theorem may_len {h : Hp} (hm : mayB h = true) : h.objs.length ≤ 256 := by
  unfold mayB at hm
  simp only [Bool.and_eq_true, decide_eq_true_eq] at hm
  omega
theorem ob_kind {n : Nat} {o : Ob} (h : obB n o = true) : kiB o = true := by
  unfold obB at h
  simp only [Bool.and_eq_true] at h
  exact h.1.2
theorem kind_len {o : Ob} (h : kiB o = true) : o.slots.length ≤ 64 ∧ o.text.size ≤ 64 ∧ (o.kind = 0 → o.text.size = 0) ∧ (o.kind = 1 → o.slots.length = 0) ∧ 0 ≤ o.kind ∧ o.kind ≤ 2 := by
  unfold kiB at h
  split at h
  · simp only [Bool.and_eq_true, decide_eq_true_eq] at h
    have := len_nil h.1.2
    omega
  · split at h
    · simp only [Bool.and_eq_true, decide_eq_true_eq] at h
      have : o.slots.length = 0 := by rw [h.1.1]; rfl
      omega
    · split at h
      · simp only [Bool.and_eq_true, decide_eq_true_eq] at h
        have := len_nil h.1.2
        have : o.slots.length = 0 := by rw [h.1.1]; rfl
        omega
      · cases h
theorem obAt_get {h : Hp} {v : Int} (hr : refB h.objs.length v = true) : ∃ i : Nat, i < h.objs.length ∧ atV v = i ∧ h.objs[i]? = some (obAt h v) := by
  obtain ⟨_, h0, h1⟩ := refB_no hr
  have hi : (atV v).toNat < h.objs.length := by omega
  refine ⟨(atV v).toNat, hi, by omega, ?_⟩
  unfold obAt
  rw [List.getD_eq_getElem?_getD, List.getElem?_eq_getElem hi]; rfl

end Go.Proofs.YtnilempeldlieaaGreat
namespace Go.Proofs.YtnilempeldlieaaGreat
open Go.RowKit
def geV (h : Hp) (v k : Int) : Int := if plE h v 0 k = 0 then (obAt h v).slots.getD k.toNat 0 else 0
def byV (h : Hp) (v k : Int) : Int := if plE h v 1 k = 0 then (((obAt h v).text.data.getD k.toNat 0).toNat : Int) else 0
theorem pl_ok {h : Hp} {v kind k : Int} (e : plE h v kind k = 0) : mayB h = true ∧ refB h.objs.length v = true ∧ (obAt h v).kind = kind ∧ 0 ≤ k ∧ k < szO kind (obAt h v) := by
  unfold plE at e
  split at e
  · cases e
  · rename_i h1
    split at e
    · cases e
    · rename_i h2
      split at e
      · cases e
      · rename_i h3
        split at e
        · cases e
        · rename_i h4
          exact ⟨by simpa using h1, by simpa using h2, by simpa using h3, by omega, by omega⟩
theorem pl_v {h : Hp} {v kind k : Int} (e : plE h v kind k = 0) : plV h v kind k = atV v := by unfold plV; rw [if_pos e]
theorem ret_2 {a a' b b' : Int} (h1 : a = a') (h2 : b = b') : Ending.returned (.tuple #[.int .i64 a, .int .i64 b]) = .returned (.tuple #[.int .i64 a', .int .i64 b']) := by rw [h1, h2]
theorem wrap_byte (x : UInt8) : wrap64 (x.toNat : Int) = x.toNat := by
  have := x.toNat_lt
  unfold wrap64; omega
theorem text_at (s : ByteArray) (j : Nat) (hj : j < s.size) : s[j] = s.data.getD j 0 := by
  rw [Array.getD_eq_getD_getElem?]
  have : s.data[j]? = some s.data[j] := Array.getElem?_eq_getElem hj
  rw [this]; rfl
theorem getD_at (xs : List Int) (j : Nat) (hj : j < xs.length) : xs[j]? = some (xs.getD j 0) := by
  rw [List.getD_eq_getElem?_getD, List.getElem?_eq_getElem hj]; rfl

end Go.Proofs.YtnilempeldlieaaGreat
