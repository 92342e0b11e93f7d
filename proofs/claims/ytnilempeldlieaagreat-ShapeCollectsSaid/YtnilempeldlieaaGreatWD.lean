/- The document's answers on what may be: obj, May. -/
import Derived.Test.YtnilempeldlieaaGreatM03
import Derived.Deep.DeepCutAuto
namespace Go.Proofs.YtnilempeldlieaaGreat
open Go.RowKit
theorem size_nil {s : ByteArray} (h : s.toList = []) : s.size = 0 := by
  rw [ByteArray.toList_eq] at h
  have := congrArg List.length h
  rw [Array.length_toList] at this
  exact this
set_option maxRecDepth 100000 in
set_option maxHeartbeats 40000000 in
theorem robj_any (h : Hp) (o : Ob) (S : Option Addr) (d : Nat) (A : Option Addr) (c : Nat) (w : World) (hs : IntsR w S o.slots) (hl : o.slots.length ≤ 9223372036854775807) :
    Calls Tryz.prog 58 #[.agg #[.slice A h.objs.length c, .int .i64 h.cap, .int .i64 h.last], .agg #[.int .i64 o.cls, .int .i64 o.kind, .slice S o.slots.length d, .string o.text, .int .i64 o.bits, .int .i64 o.hash]] w fun e w' => e = .returned (.bool (obB h.objs.length o)) ∧ Below w.heap.size w w' := by
  have HB0 := hid (below_alloc2 w (.cells #[Value.slice A h.objs.length c, Value.int .i64 h.cap, Value.int .i64 h.last] 24) (.cells #[.int .i64 o.cls, .int .i64 o.kind, .slice S o.slots.length d, .string o.text, .int .i64 o.bits, .int .i64 o.hash] 41))
  have HX := hid ((BoxH.new w h A c).later (below_alloc _ (.cells #[.int .i64 o.cls, .int .i64 o.kind, .slice S o.slots.length d, .string o.text, .int .i64 o.bits, .int .i64 o.hash] 41)))
  have HY := hid (BoxO.new (w.alloc (.cells #[Value.slice A h.objs.length c, Value.int .i64 h.cap, Value.int .i64 h.last] 24)) o S d)
  have HS := hid hs
  clear hs
  go_enter Tryz.func58, Tryz.ntmps58
  go_wp2
  go_loopw [5] (fun i wr => ∃ k : Nat, k ≤ o.slots.length ∧ i = .int .i64 k ∧ (o.slots.take k).all (hasB h.objs.length) = true ∧ Below w.heap.size w wr ∧ BoxH wr w.heap.size h A c ∧ BoxO wr (w.heap.size + 1) o S d) (fun i _ => o.slots.length - (intOf i).toNat)
  case atStart => exact ⟨0, Nat.zero_le _, rfl, rfl, HB0.out, HX.out, by simpa using HY.out⟩
  case round =>
    obtain ⟨k, hk, rfl, hall, hbw, hX, hY⟩ := hrel
    have HA := hid hall
    have HW := hid hbw
    have HX' := hid hX
    have HY' := hid hY
    clear hall hbw HX HY
    by_cases hlt : k < o.slots.length
    · obtain ⟨e0, e1, e2⟩ := hX
      obtain ⟨f0, f1, f2, f3, f4, f5⟩ := hY
      obtain ⟨bs, os, rfl, hbs, hcs⟩ := HS.out (by omega)
      have hcell : wr.cell? ⟨bs, os + k, none⟩ = some (.int .i64 o.slots[k]) := (HW.out.cell (p := ⟨bs, os + k, none⟩) hbs).trans (hcs k _ (List.getElem?_eq_getElem hlt))
      have HT : Hid ((o.slots.take (k + 1)).all (hasB h.objs.length) = ((o.slots.take k).all (hasB h.objs.length) && hasB h.objs.length o.slots[k])) := by
        show _ = _
        rw [List.take_succ_eq_append_getElem hlt, List.all_append]; simp
      clear hcs
      go_wp2
      go_region_held3 (fun w' => w'.cell? ⟨w.heap.size, 0, none⟩ = some (.slice A h.objs.length c) ∧ w'.cell? ⟨w.heap.size, 1, none⟩ = some (.int .i64 h.cap) ∧ w'.cell? ⟨w.heap.size, 2, none⟩ = some (.int .i64 h.last) ∧
          w'.cell? ⟨w.heap.size + 1, 2, none⟩ = some (.slice (some ⟨bs, os, none⟩) o.slots.length d) ∧ w'.cell? ⟨bs, os + k, none⟩ = some (.int .i64 o.slots[k]) ∧ Below wr.heap.size wr w')
        (first | exact ⟨e0, e1, e2, f2, hcell, (Below.refl _ _).drew⟩ | exact ⟨cell_later hb e0, cell_later hb e1, cell_later hb e2, cell_later hb f2, cell_later hb hcell, (Below.refl _ _).drew.trans hb⟩)
        (first | (go_at_call 35; refine (rhas_any h _ A c _).mono ?_; rintro e w' ⟨rfl, hb⟩))
      cases hv : hasB h.objs.length o.slots[k]
      · go_wp2
        go_ret
        refine ⟨ret_bool ?_, HW.out.drew.trans (hb.mono HW.out.size)⟩
        have : o.slots.all (hasB h.objs.length) = false := by
          cases hx : o.slots.all (hasB h.objs.length)
          · rfl
          · have := List.all_eq_true.1 hx o.slots[k] (List.getElem_mem hlt)
            rw [hv] at this; cases this
        simp [obB, this]
      · go_wp2
        go_roundw
        case rel => exact ⟨k + 1, by omega, by go_num, by rw [HT.out, HA.out, hv]; rfl, HW.out.drew.trans (hb.mono HW.out.size), HX'.out.later ((Below.refl _ _).drew.trans hb), HY'.out.later ((Below.refl _ _).drew.trans hb)⟩
        case measure => simp [intOf]; omega
    · obtain ⟨e0, e1, e2⟩ := hX
      obtain ⟨f0, f1, f2, f3, f4, f5⟩ := hY
      have HO : Hid (obB h.objs.length o = (refB h.objs.length o.cls && haB o.hash && kiB o)) := by
        have hk' : k = o.slots.length := by omega
        have := HA.out
        rw [hk', List.take_length] at this
        show _ = _
        simp [obB, this]
      obtain rfl : k = o.slots.length := by omega
      clear hlt hk
      go_upto_region 6 with fail
      go_cut [59] (fun s wx => wr = wx ∧ ∃ b : Bool, s = .bool b ∧ (b = true → kiB o = false) ∧ (b = false → kiB o = (decide ((o.slots.length : Int) ≤ 64) && decide ((o.text.size : Int) ≤ 64) && (canon o.bits == o.bits))))
      case first =>
        by_cases g0 : o.kind < 0
        · go_wp2_with fail
          go_meet
          exact ⟨rfl, true, rfl, fun _ => by simp [kiB, show ¬ o.kind = 0 by omega, show ¬ o.kind = 1 by omega, show ¬ o.kind = 2 by omega], fun g => by cases g⟩
        have g0' : 0 ≤ o.kind := by omega
        clear g0
        by_cases g1 : 2 < o.kind
        · go_wp2_with fail
          go_meet
          exact ⟨rfl, true, rfl, fun _ => by simp [kiB, show ¬ o.kind = 0 by omega, show ¬ o.kind = 1 by omega, show ¬ o.kind = 2 by omega], fun g => by cases g⟩
        have g1' : o.kind ≤ 2 := by omega
        clear g1
        rcases (show o.kind = 0 ∨ o.kind = 1 ∨ o.kind = 2 by omega) with kk | kk | kk
        · have z0 : (o.kind != 0) = false := by simp [kk]
          have z1 : (o.kind != 1) = true := by simp [kk]
          have z2 : (o.kind != 2) = true := by simp [kk]
          have KK := hid kk
          clear kk
          by_cases x1 : o.text.toList = []
          · have x1a : o.text.toList.isEmpty = true := by rw [x1]; rfl
            have X1 := hid x1
            clear x1
            by_cases x2 : o.bits = 0
            · have x2a : (o.bits != 0) = false := by simpa using x2
              have X2 := hid x2
              clear x2
              go_wp2_with fail
              go_meet
              exact ⟨rfl, _, rfl, fun g => absurd g (by first | (simp; done) | (simp; omega)), fun _ => by simp [kiB, KK.out, X1.out, X2.out, size_nil X1.out, canon, infR, rg]⟩
            · have x2a : (o.bits != 0) = true := by simpa using x2
              have X2 := hid x2
              clear x2
              go_wp2_with fail
              go_meet
              exact ⟨rfl, _, rfl, fun _ => by simp [kiB, KK.out, X1.out, X2.out], fun g => absurd g (by first | (simp; done) | (simp; omega))⟩
          · have x1a : o.text.toList.isEmpty = false := by simpa using x1
            have X1 := hid x1
            clear x1
            go_wp2_with fail
            go_meet
            exact ⟨rfl, _, rfl, fun _ => by simp [kiB, KK.out, X1.out], fun g => absurd g (by first | (simp; done) | (simp; omega))⟩
        · have z0 : (o.kind != 0) = true := by simp [kk]
          have z1 : (o.kind != 1) = false := by simp [kk]
          have z2 : (o.kind != 2) = true := by simp [kk]
          have KK := hid kk
          clear kk
          by_cases x3 : o.slots = []
          · have x3b : decide (0 < o.slots.length) = false := by simp [x3]
            have X3 := hid x3
            clear x3
            by_cases x2 : o.bits = 0
            · have x2a : (o.bits != 0) = false := by simpa using x2
              have X2 := hid x2
              clear x2
              go_wp2_with fail
              go_meet
              exact ⟨rfl, _, rfl, fun g => absurd g (by first | (simp; done) | (simp; omega)), fun _ => by simp [kiB, KK.out, X3.out, X2.out, canon, infR, rg]⟩
            · have x2a : (o.bits != 0) = true := by simpa using x2
              have X2 := hid x2
              clear x2
              go_wp2_with fail
              go_meet
              exact ⟨rfl, _, rfl, fun _ => by simp [kiB, KK.out, X3.out, X2.out], fun g => absurd g (by first | (simp; done) | (simp; omega))⟩
          · have x3b : decide (0 < o.slots.length) = true := by have := List.length_pos_iff.2 x3; simpa using this
            have X3 := hid x3
            clear x3
            go_wp2_with fail
            go_meet
            exact ⟨rfl, _, rfl, fun _ => by simp [kiB, KK.out, X3.out], fun g => absurd g (by first | (simp; done) | (simp; omega))⟩
        · have z0 : (o.kind != 0) = true := by simp [kk]
          have z1 : (o.kind != 1) = true := by simp [kk]
          have z2 : (o.kind != 2) = false := by simp [kk]
          have KK := hid kk
          clear kk
          by_cases x3 : o.slots = []
          · have x3b : decide (0 < o.slots.length) = false := by simp [x3]
            have X3 := hid x3
            clear x3
            by_cases x1 : o.text.toList = []
            · have x1a : o.text.toList.isEmpty = true := by rw [x1]; rfl
              have X1 := hid x1
              clear x1
              go_wp2_with fail
              go_meet
              exact ⟨rfl, _, rfl, fun g => absurd g (by first | (simp; done) | (simp; omega)), fun _ => by simp [kiB, KK.out, X3.out, X1.out, size_nil X1.out]; exact Bool.beq_comm⟩
            · have x1a : o.text.toList.isEmpty = false := by simpa using x1
              have X1 := hid x1
              clear x1
              go_wp2_with fail
              go_meet
              exact ⟨rfl, _, rfl, fun _ => by simp [kiB, KK.out, X3.out, X1.out], fun g => absurd g (by first | (simp; done) | (simp; omega))⟩
          · have x3b : decide (0 < o.slots.length) = true := by have := List.length_pos_iff.2 x3; simpa using this
            have X3 := hid x3
            clear x3
            go_wp2_with fail
            go_meet
            exact ⟨rfl, _, rfl, fun _ => by simp [kiB, KK.out, X3.out], fun g => absurd g (by first | (simp; done) | (simp; omega))⟩
      case rest =>
        obtain ⟨rfl, b, rfl, hkt, hkf⟩ := hcut
        cases b
        · have HK := hid (hkf rfl)
          have E := hid (And.intro e0 (And.intro e1 (And.intro e2 (And.intro f0 (And.intro f2 (And.intro f3 (And.intro f4 f5)))))))
          clear hkt hkf HA HX' HY' HS HB0 f1
          go_wp2
          clear e0 e1 e2 f0 f2 f3 f4 f5
          refine wp_region_held_drew (S := (fun w' => w'.cell? ⟨w.heap.size, 0, none⟩ = some (.slice A h.objs.length c) ∧ w'.cell? ⟨w.heap.size, 1, none⟩ = some (.int .i64 h.cap) ∧ w'.cell? ⟨w.heap.size, 2, none⟩ = some (.int .i64 h.last) ∧
              w'.cell? ⟨w.heap.size + 1, 0, none⟩ = some (.int .i64 o.cls) ∧ w'.cell? ⟨w.heap.size + 1, 2, none⟩ = some (.slice S o.slots.length d) ∧ w'.cell? ⟨w.heap.size + 1, 3, none⟩ = some (.string o.text) ∧ w'.cell? ⟨w.heap.size + 1, 4, none⟩ = some (.int .i64 o.bits) ∧ w'.cell? ⟨w.heap.size + 1, 5, none⟩ = some (.int .i64 o.hash) ∧ Below wr.heap.size wr w')) (by kernel_rfl) ?_ (fun hHeld => ?_)
          · exact ⟨E.out.1, E.out.2.1, E.out.2.2.1, E.out.2.2.2.1, E.out.2.2.2.2.1, E.out.2.2.2.2.2.1, E.out.2.2.2.2.2.2.1, E.out.2.2.2.2.2.2.2, (Below.refl _ _).drew⟩
          refine tkI 0 ⟨some 60, .load 24 (.tmp 2), 24, "ref.go:38", #[], none⟩ ?v1 rfl (by kernel_rfl) (by rfl) ?y1 ?_
          case y1 => intro w hSw; (try dsimp only at hSw); go_simp; all_goals with_reducible rfl
          try simp only [apt12]
          refine tkI 1 ⟨some 61, .fieldAddr 41 (.tmp 3) 0, 0, "ref.go:38", #[], none⟩ ?v2 rfl (by kernel_rfl) (by rfl) ?y2 ?_
          case y2 => intro w hSw; (try dsimp only at hSw); go_simp; all_goals with_reducible rfl
          try simp only [apt12]
          refine tkI 2 ⟨some 62, .load 3 (.tmp 61), 3, "ref.go:38", #[⟨1, .data⟩], none⟩ ?v3 rfl (by kernel_rfl) (by rfl) ?y3 ?_
          case y3 => intro w hSw; (try dsimp only at hSw); go_simp; all_goals with_reducible rfl
          try simp only [apt12]
          refine wpAnyH_ready (rs := [3]) (by kernel_rfl) (by simp) ?_
          refine AllReadyH.cons (i := 3) (o := ⟨some 63, .call { callee := .value (.func 32), args := #[.tmp 60, .tmp 62], argTypes := #[24, 3] }, 3, "ref.go:38", #[⟨0, .data⟩, ⟨2, .data⟩], none⟩) rfl (fun K hK => ?_) AllReadyH.nil
          go_simp
          go_at_call 32; refine (rref_any h _ A c _).mono ?_; rintro e w' ⟨rfl, hb⟩
          refine hK.out _ _ ?_ (fun hHeld => ?_)
          · exact ⟨cell_later hb E.out.1, cell_later hb E.out.2.1, cell_later hb E.out.2.2.1, cell_later hb E.out.2.2.2.1, cell_later hb E.out.2.2.2.2.1, cell_later hb E.out.2.2.2.2.2.1, cell_later hb E.out.2.2.2.2.2.2.1, cell_later hb E.out.2.2.2.2.2.2.2, (Below.refl _ _).drew.trans hb⟩
          clear hK K
          try simp only [apt12]
          by_cases x4 : refB h.objs.length o.cls = true
          · have x4a : decide (0 ≤ refI h.objs.length o.cls) = true := by have := refB_no x4; rw [refI_nonneg x4]; simpa using this.2.1
            have X4 := hid x4
            clear x4
            refine tkI 4 ⟨some 64, .binOp .geq 3 (.tmp 63) (.const (Go.Value.int .i64 0)) 3, 4, "ref.go:38", #[⟨3, .data⟩], none⟩ ?v63 rfl (by kernel_rfl) (by rfl) ?y63 ?_
            case y63 => intro w hSw; (try dsimp only at hSw); go_simp; all_goals with_reducible rfl
            try simp only [apt12]
            refine tkI 5 ⟨some 65, .move (.tmp 64), 4, "ref.go:38", #[⟨4, .data⟩, ⟨3, .chain⟩], none⟩ ?v64 rfl (by kernel_rfl) (by rfl) ?y64 ?_
            case y64 => intro w hSw; (try dsimp only at hSw); go_simp; all_goals with_reducible rfl
            try simp only [apt12]
            by_cases x5 : haB o.hash = true
            · have x5a : haB o.hash = true := x5
              have X5 := hid x5
              clear x5
              refine tkI 6 ⟨some 66, .fieldAddr 41 (.tmp 3) 5, 0, "ref.go:38", #[⟨5, .guard⟩], some (5, true)⟩ ?v49 rfl (by kernel_rfl) (by rfl) ?y49 ?_
              case y49 => intro w hSw; (try dsimp only at hSw); go_simp; all_goals with_reducible rfl
              try simp only [apt12]
              refine tkI 7 ⟨some 67, .load 3 (.tmp 66), 3, "ref.go:38", #[⟨6, .data⟩, ⟨5, .guard⟩], some (5, true)⟩ ?v50 rfl (by kernel_rfl) (by rfl) ?y50 ?_
              case y50 => intro w hSw; (try dsimp only at hSw); go_simp; all_goals with_reducible rfl
              try simp only [apt12]
              refine wpAnyH_ready (rs := [8]) (by kernel_rfl) (by simp) ?_
              refine AllReadyH.cons (i := 8) (o := ⟨some 68, .call { callee := .value (.func 59), args := #[.tmp 67], argTypes := #[3] }, 4, "ref.go:38", #[⟨7, .data⟩, ⟨5, .chain⟩, ⟨5, .guard⟩], some (5, true)⟩) rfl (fun K hK => ?_) AllReadyH.nil
              go_simp
              go_at_call 59; refine (rhash_any _ _).mono ?_; rintro e w'' ⟨rfl, rfl⟩
              refine hK.out _ _ ?_ (fun hHeld => ?_)
              · assumption
              clear hK K
              try simp only [apt12]
              refine tkI 9 ⟨some 69, .pick (.tmp 65) (.tmp 68) (.const (Go.Value.bool false)), 4, "ref.go:38", #[⟨5, .data⟩, ⟨8, .data⟩], none⟩ ?v51 rfl (by kernel_rfl) (by rfl) ?y51 ?_
              case y51 => intro w hSw; (try dsimp only at hSw); go_simp; all_goals with_reducible rfl
              try simp only [apt12]
              refine tkI 10 ⟨some 70, .move (.tmp 69), 4, "ref.go:38", #[⟨9, .data⟩, ⟨8, .chain⟩], none⟩ ?v52 rfl (by kernel_rfl) (by rfl) ?y52 ?_
              case y52 => intro w hSw; (try dsimp only at hSw); go_simp; all_goals with_reducible rfl
              try simp only [apt12]
              by_cases x6 : (o.slots.length : Int) ≤ 64
              · have x6a : decide ((o.slots.length : Int) ≤ 64) = true := by simpa using x6
                have X6 := hid x6
                clear x6
                refine tkI 11 ⟨some 71, .fieldAddr 41 (.tmp 3) 2, 0, "ref.go:38", #[⟨10, .guard⟩], some (10, true)⟩ ?v34 rfl (by kernel_rfl) (by rfl) ?y34 ?_
                case y34 => intro w hSw; (try dsimp only at hSw); go_simp; all_goals with_reducible rfl
                try simp only [apt12]
                refine tkI 12 ⟨some 72, .load 34 (.tmp 71), 34, "ref.go:38", #[⟨11, .data⟩, ⟨10, .guard⟩], some (10, true)⟩ ?v35 rfl (by kernel_rfl) (by rfl) ?y35 ?_
                case y35 => intro w hSw; (try dsimp only at hSw); go_simp; all_goals with_reducible rfl
                try simp only [apt12]
                refine tkI 13 ⟨some 73, .call { callee := .builtin .len, args := #[.tmp 72], argTypes := #[34] }, 3, "ref.go:38", #[⟨12, .data⟩, ⟨10, .guard⟩], some (10, true)⟩ ?v36 rfl (by kernel_rfl) (by rfl) ?y36 ?_
                case y36 => intro w hSw; (try dsimp only at hSw); go_simp; all_goals with_reducible rfl
                try simp only [apt12]
                refine tkI 14 ⟨some 74, .binOp .leq 3 (.tmp 73) (.const (Go.Value.int .i64 64)) 3, 4, "ref.go:38", #[⟨13, .data⟩, ⟨10, .guard⟩], some (10, true)⟩ ?v37 rfl (by kernel_rfl) (by rfl) ?y37 ?_
                case y37 => intro w hSw; (try dsimp only at hSw); go_simp; all_goals with_reducible rfl
                try simp only [apt12]
                refine tkI 15 ⟨some 75, .pick (.tmp 70) (.tmp 74) (.const (Go.Value.bool false)), 4, "ref.go:38", #[⟨10, .data⟩, ⟨14, .data⟩], none⟩ ?v38 rfl (by kernel_rfl) (by rfl) ?y38 ?_
                case y38 => intro w hSw; (try dsimp only at hSw); go_simp; all_goals with_reducible rfl
                try simp only [apt12]
                by_cases x7 : (o.text.size : Int) ≤ 64
                · have x7a : decide ((o.text.size : Int) ≤ 64) = true := by simpa using x7
                  have X7 := hid x7
                  clear x7
                  refine tkI 16 ⟨some 76, .move (.tmp 75), 4, "ref.go:38", #[⟨15, .data⟩, ⟨10, .chain⟩], none⟩ ?v18 rfl (by kernel_rfl) (by rfl) ?y18 ?_
                  case y18 => intro w hSw; (try dsimp only at hSw); go_simp; all_goals with_reducible rfl
                  try simp only [apt12]
                  refine tkI 17 ⟨some 77, .fieldAddr 41 (.tmp 3) 3, 0, "ref.go:38", #[⟨16, .guard⟩], some (16, true)⟩ ?v19 rfl (by kernel_rfl) (by rfl) ?y19 ?_
                  case y19 => intro w hSw; (try dsimp only at hSw); go_simp; all_goals with_reducible rfl
                  try simp only [apt12]
                  refine tkI 18 ⟨some 78, .load 9 (.tmp 77), 9, "ref.go:38", #[⟨17, .data⟩, ⟨16, .guard⟩], some (16, true)⟩ ?v20 rfl (by kernel_rfl) (by rfl) ?y20 ?_
                  case y20 => intro w hSw; (try dsimp only at hSw); go_simp; all_goals with_reducible rfl
                  try simp only [apt12]
                  refine tkI 19 ⟨some 79, .call { callee := .builtin .len, args := #[.tmp 78], argTypes := #[9] }, 3, "ref.go:38", #[⟨18, .data⟩, ⟨16, .guard⟩], some (16, true)⟩ ?v21 rfl (by kernel_rfl) (by rfl) ?y21 ?_
                  case y21 => intro w hSw; (try dsimp only at hSw); go_simp; all_goals with_reducible rfl
                  try simp only [apt12]
                  refine tkI 20 ⟨some 80, .binOp .leq 3 (.tmp 79) (.const (Go.Value.int .i64 64)) 3, 4, "ref.go:38", #[⟨19, .data⟩, ⟨16, .guard⟩], some (16, true)⟩ ?v22 rfl (by kernel_rfl) (by rfl) ?y22 ?_
                  case y22 => intro w hSw; (try dsimp only at hSw); go_simp; all_goals with_reducible rfl
                  try simp only [apt12]
                  refine tkI 21 ⟨some 81, .pick (.tmp 76) (.tmp 80) (.const (Go.Value.bool false)), 4, "ref.go:38", #[⟨16, .data⟩, ⟨20, .data⟩], none⟩ ?v23 rfl (by kernel_rfl) (by rfl) ?y23 ?_
                  case y23 => intro w hSw; (try dsimp only at hSw); go_simp; all_goals with_reducible rfl
                  try simp only [apt12]
                  refine tkI 22 ⟨some 82, .move (.tmp 81), 4, "ref.go:38", #[⟨21, .data⟩, ⟨16, .chain⟩], none⟩ ?v24 rfl (by kernel_rfl) (by rfl) ?y24 ?_
                  case y24 => intro w hSw; (try dsimp only at hSw); go_simp; all_goals with_reducible rfl
                  try simp only [apt12]
                  by_cases x8 : o.bits = canon o.bits
                  · have x8a : (canon o.bits == o.bits) = true := by rw [← x8]; simp
                    have X8 := hid x8
                    clear x8
                    refine tkI 23 ⟨some 83, .fieldAddr 41 (.tmp 3) 4, 0, "ref.go:38", #[⟨22, .guard⟩], some (22, true)⟩ ?v4 rfl (by kernel_rfl) (by rfl) ?y4 ?_
                    case y4 => intro w hSw; (try dsimp only at hSw); go_simp; all_goals with_reducible rfl
                    try simp only [apt12]
                    refine tkI 24 ⟨some 84, .load 3 (.tmp 83), 3, "ref.go:38", #[⟨23, .data⟩, ⟨22, .guard⟩], some (22, true)⟩ ?v5 rfl (by kernel_rfl) (by rfl) ?y5 ?_
                    case y5 => intro w hSw; (try dsimp only at hSw); go_simp; all_goals with_reducible rfl
                    try simp only [apt12]
                    refine tkI 26 ⟨some 86, .fieldAddr 41 (.tmp 3) 4, 0, "ref.go:38", #[⟨22, .guard⟩], some (22, true)⟩ ?v6 rfl (by kernel_rfl) (by rfl) ?y6 ?_
                    case y6 => intro w hSw; (try dsimp only at hSw); go_simp; all_goals with_reducible rfl
                    try simp only [apt12]
                    refine tkI 27 ⟨some 87, .load 3 (.tmp 86), 3, "ref.go:38", #[⟨26, .data⟩, ⟨22, .guard⟩], some (22, true)⟩ ?v7 rfl (by kernel_rfl) (by rfl) ?y7 ?_
                    case y7 => intro w hSw; (try dsimp only at hSw); go_simp; all_goals with_reducible rfl
                    try simp only [apt12]
                    refine wpAnyH_ready (rs := [25]) (by kernel_rfl) (by simp) ?_
                    refine AllReadyH.cons (i := 25) (o := ⟨some 85, .call { callee := .value (.func 111), args := #[.tmp 84], argTypes := #[3] }, 3, "ref.go:38", #[⟨24, .data⟩, ⟨22, .chain⟩, ⟨22, .guard⟩], some (22, true)⟩) rfl (fun K hK => ?_) AllReadyH.nil
                    go_simp
                    go_at_call 111; refine (rcanon_any _ _).mono ?_; rintro e w'' ⟨rfl, rfl⟩
                    refine hK.out _ _ ?_ (fun hHeld => ?_)
                    · assumption
                    clear hK K
                    try simp only [apt12]
                    refine tkI 28 ⟨some 88, .binOp .eql 3 (.tmp 85) (.tmp 87) 3, 4, "ref.go:38", #[⟨25, .data⟩, ⟨27, .data⟩, ⟨22, .guard⟩], some (22, true)⟩ ?v8 rfl (by kernel_rfl) (by rfl) ?y8 ?_
                    case y8 => intro w hSw; (try dsimp only at hSw); go_simp; all_goals with_reducible rfl
                    try simp only [apt12]
                    refine tkI 29 ⟨some 89, .pick (.tmp 82) (.tmp 88) (.const (Go.Value.bool false)), 4, "ref.go:38", #[⟨22, .data⟩, ⟨28, .data⟩], none⟩ ?v9 rfl (by kernel_rfl) (by rfl) ?y9 ?_
                    case y9 => intro w hSw; (try dsimp only at hSw); go_simp; all_goals with_reducible rfl
                    try simp only [apt12]
                    refine tkI 30 ⟨some 4, .assign (.tmp 89), 4, "ref.go:38", #[⟨29, .data⟩, ⟨25, .chain⟩, ⟨0, .phase⟩, ⟨1, .phase⟩, ⟨2, .phase⟩, ⟨3, .phase⟩, ⟨4, .phase⟩, ⟨5, .phase⟩, ⟨6, .phase⟩, ⟨7, .phase⟩, ⟨8, .phase⟩, ⟨9, .phase⟩, ⟨10, .phase⟩, ⟨11, .phase⟩, ⟨12, .phase⟩, ⟨13, .phase⟩, ⟨14, .phase⟩, ⟨15, .phase⟩, ⟨16, .phase⟩, ⟨17, .phase⟩, ⟨18, .phase⟩, ⟨19, .phase⟩, ⟨20, .phase⟩, ⟨21, .phase⟩, ⟨22, .phase⟩, ⟨23, .phase⟩, ⟨24, .phase⟩, ⟨25, .phase⟩, ⟨26, .phase⟩, ⟨27, .phase⟩, ⟨28, .phase⟩, ⟨29, .phase⟩], none⟩ ?v10 rfl (by kernel_rfl) (by rfl) ?y10 ?_
                    case y10 => intro w hSw; (try dsimp only at hSw); go_simp; all_goals with_reducible rfl
                    try simp only [apt12]
                    refine wpAnyH_done (by kernel_rfl) ?_ _
                    go_wp2
                    go_ret
                    exact ⟨ret_bool (by rw [HO.out, HK.out]; simp [X4.out, X5.out, x6a, x7a, x8a]), HW.out.drew.trans (hb.mono HW.out.size)⟩
                  · have x8a : (canon o.bits == o.bits) = false := by simpa using fun e => x8 e.symm
                    have X8 := hid x8
                    clear x8
                    refine tkI 23 ⟨some 83, .fieldAddr 41 (.tmp 3) 4, 0, "ref.go:38", #[⟨22, .guard⟩], some (22, true)⟩ ?v11 rfl (by kernel_rfl) (by rfl) ?y11 ?_
                    case y11 => intro w hSw; (try dsimp only at hSw); go_simp; all_goals with_reducible rfl
                    try simp only [apt12]
                    refine tkI 24 ⟨some 84, .load 3 (.tmp 83), 3, "ref.go:38", #[⟨23, .data⟩, ⟨22, .guard⟩], some (22, true)⟩ ?v12 rfl (by kernel_rfl) (by rfl) ?y12 ?_
                    case y12 => intro w hSw; (try dsimp only at hSw); go_simp; all_goals with_reducible rfl
                    try simp only [apt12]
                    refine tkI 26 ⟨some 86, .fieldAddr 41 (.tmp 3) 4, 0, "ref.go:38", #[⟨22, .guard⟩], some (22, true)⟩ ?v13 rfl (by kernel_rfl) (by rfl) ?y13 ?_
                    case y13 => intro w hSw; (try dsimp only at hSw); go_simp; all_goals with_reducible rfl
                    try simp only [apt12]
                    refine tkI 27 ⟨some 87, .load 3 (.tmp 86), 3, "ref.go:38", #[⟨26, .data⟩, ⟨22, .guard⟩], some (22, true)⟩ ?v14 rfl (by kernel_rfl) (by rfl) ?y14 ?_
                    case y14 => intro w hSw; (try dsimp only at hSw); go_simp; all_goals with_reducible rfl
                    try simp only [apt12]
                    refine wpAnyH_ready (rs := [25]) (by kernel_rfl) (by simp) ?_
                    refine AllReadyH.cons (i := 25) (o := ⟨some 85, .call { callee := .value (.func 111), args := #[.tmp 84], argTypes := #[3] }, 3, "ref.go:38", #[⟨24, .data⟩, ⟨22, .chain⟩, ⟨22, .guard⟩], some (22, true)⟩) rfl (fun K hK => ?_) AllReadyH.nil
                    go_simp
                    go_at_call 111; refine (rcanon_any _ _).mono ?_; rintro e w'' ⟨rfl, rfl⟩
                    refine hK.out _ _ ?_ (fun hHeld => ?_)
                    · assumption
                    clear hK K
                    try simp only [apt12]
                    refine tkI 28 ⟨some 88, .binOp .eql 3 (.tmp 85) (.tmp 87) 3, 4, "ref.go:38", #[⟨25, .data⟩, ⟨27, .data⟩, ⟨22, .guard⟩], some (22, true)⟩ ?v15 rfl (by kernel_rfl) (by rfl) ?y15 ?_
                    case y15 => intro w hSw; (try dsimp only at hSw); go_simp; all_goals with_reducible rfl
                    try simp only [apt12]
                    refine tkI 29 ⟨some 89, .pick (.tmp 82) (.tmp 88) (.const (Go.Value.bool false)), 4, "ref.go:38", #[⟨22, .data⟩, ⟨28, .data⟩], none⟩ ?v16 rfl (by kernel_rfl) (by rfl) ?y16 ?_
                    case y16 => intro w hSw; (try dsimp only at hSw); go_simp; all_goals with_reducible rfl
                    try simp only [apt12]
                    refine tkI 30 ⟨some 4, .assign (.tmp 89), 4, "ref.go:38", #[⟨29, .data⟩, ⟨25, .chain⟩, ⟨0, .phase⟩, ⟨1, .phase⟩, ⟨2, .phase⟩, ⟨3, .phase⟩, ⟨4, .phase⟩, ⟨5, .phase⟩, ⟨6, .phase⟩, ⟨7, .phase⟩, ⟨8, .phase⟩, ⟨9, .phase⟩, ⟨10, .phase⟩, ⟨11, .phase⟩, ⟨12, .phase⟩, ⟨13, .phase⟩, ⟨14, .phase⟩, ⟨15, .phase⟩, ⟨16, .phase⟩, ⟨17, .phase⟩, ⟨18, .phase⟩, ⟨19, .phase⟩, ⟨20, .phase⟩, ⟨21, .phase⟩, ⟨22, .phase⟩, ⟨23, .phase⟩, ⟨24, .phase⟩, ⟨25, .phase⟩, ⟨26, .phase⟩, ⟨27, .phase⟩, ⟨28, .phase⟩, ⟨29, .phase⟩], none⟩ ?v17 rfl (by kernel_rfl) (by rfl) ?y17 ?_
                    case y17 => intro w hSw; (try dsimp only at hSw); go_simp; all_goals with_reducible rfl
                    try simp only [apt12]
                    refine wpAnyH_done (by kernel_rfl) ?_ _
                    go_wp2
                    go_ret
                    exact ⟨ret_bool (by rw [HO.out, HK.out]; simp [X4.out, X5.out, x6a, x7a, x8a]), HW.out.drew.trans (hb.mono HW.out.size)⟩
                · have x7a : decide ((o.text.size : Int) ≤ 64) = false := by simpa using x7
                  have X7 := hid x7
                  clear x7
                  refine tkI 16 ⟨some 76, .move (.tmp 75), 4, "ref.go:38", #[⟨15, .data⟩, ⟨10, .chain⟩], none⟩ ?v25 rfl (by kernel_rfl) (by rfl) ?y25 ?_
                  case y25 => intro w hSw; (try dsimp only at hSw); go_simp; all_goals with_reducible rfl
                  try simp only [apt12]
                  refine tkI 17 ⟨some 77, .fieldAddr 41 (.tmp 3) 3, 0, "ref.go:38", #[⟨16, .guard⟩], some (16, true)⟩ ?v26 rfl (by kernel_rfl) (by rfl) ?y26 ?_
                  case y26 => intro w hSw; (try dsimp only at hSw); go_simp; all_goals with_reducible rfl
                  try simp only [apt12]
                  refine tkI 18 ⟨some 78, .load 9 (.tmp 77), 9, "ref.go:38", #[⟨17, .data⟩, ⟨16, .guard⟩], some (16, true)⟩ ?v27 rfl (by kernel_rfl) (by rfl) ?y27 ?_
                  case y27 => intro w hSw; (try dsimp only at hSw); go_simp; all_goals with_reducible rfl
                  try simp only [apt12]
                  refine tkI 19 ⟨some 79, .call { callee := .builtin .len, args := #[.tmp 78], argTypes := #[9] }, 3, "ref.go:38", #[⟨18, .data⟩, ⟨16, .guard⟩], some (16, true)⟩ ?v28 rfl (by kernel_rfl) (by rfl) ?y28 ?_
                  case y28 => intro w hSw; (try dsimp only at hSw); go_simp; all_goals with_reducible rfl
                  try simp only [apt12]
                  refine tkI 20 ⟨some 80, .binOp .leq 3 (.tmp 79) (.const (Go.Value.int .i64 64)) 3, 4, "ref.go:38", #[⟨19, .data⟩, ⟨16, .guard⟩], some (16, true)⟩ ?v29 rfl (by kernel_rfl) (by rfl) ?y29 ?_
                  case y29 => intro w hSw; (try dsimp only at hSw); go_simp; all_goals with_reducible rfl
                  try simp only [apt12]
                  refine tkI 21 ⟨some 81, .pick (.tmp 76) (.tmp 80) (.const (Go.Value.bool false)), 4, "ref.go:38", #[⟨16, .data⟩, ⟨20, .data⟩], none⟩ ?v30 rfl (by kernel_rfl) (by rfl) ?y30 ?_
                  case y30 => intro w hSw; (try dsimp only at hSw); go_simp; all_goals with_reducible rfl
                  try simp only [apt12]
                  refine tkI 22 ⟨some 82, .move (.tmp 81), 4, "ref.go:38", #[⟨21, .data⟩, ⟨16, .chain⟩], none⟩ ?v31 rfl (by kernel_rfl) (by rfl) ?y31 ?_
                  case y31 => intro w hSw; (try dsimp only at hSw); go_simp; all_goals with_reducible rfl
                  try simp only [apt12]
                  refine tkO 23 ⟨some 83, .fieldAddr 41 (.tmp 3) 4, 0, "ref.go:38", #[⟨22, .guard⟩], some (22, true)⟩ rfl (by kernel_rfl) (by rfl) ?_
                  try simp only [apt12]
                  refine tkO 24 ⟨some 84, .load 3 (.tmp 83), 3, "ref.go:38", #[⟨23, .data⟩, ⟨22, .guard⟩], some (22, true)⟩ rfl (by kernel_rfl) (by rfl) ?_
                  try simp only [apt12]
                  refine tkO 25 ⟨some 85, .call { callee := .value (.func 111), args := #[.tmp 84], argTypes := #[3] }, 3, "ref.go:38", #[⟨24, .data⟩, ⟨22, .chain⟩, ⟨22, .guard⟩], some (22, true)⟩ rfl (by kernel_rfl) (by rfl) ?_
                  try simp only [apt12]
                  refine tkO 26 ⟨some 86, .fieldAddr 41 (.tmp 3) 4, 0, "ref.go:38", #[⟨22, .guard⟩], some (22, true)⟩ rfl (by kernel_rfl) (by rfl) ?_
                  try simp only [apt12]
                  refine tkO 27 ⟨some 87, .load 3 (.tmp 86), 3, "ref.go:38", #[⟨26, .data⟩, ⟨22, .guard⟩], some (22, true)⟩ rfl (by kernel_rfl) (by rfl) ?_
                  try simp only [apt12]
                  refine tkO 28 ⟨some 88, .binOp .eql 3 (.tmp 85) (.tmp 87) 3, 4, "ref.go:38", #[⟨25, .data⟩, ⟨27, .data⟩, ⟨22, .guard⟩], some (22, true)⟩ rfl (by kernel_rfl) (by rfl) ?_
                  try simp only [apt12]
                  refine tkI 29 ⟨some 89, .pick (.tmp 82) (.tmp 88) (.const (Go.Value.bool false)), 4, "ref.go:38", #[⟨22, .data⟩, ⟨28, .data⟩], none⟩ ?v32 rfl (by kernel_rfl) (by rfl) ?y32 ?_
                  case y32 => intro w hSw; (try dsimp only at hSw); go_simp; all_goals with_reducible rfl
                  try simp only [apt12]
                  refine tkI 30 ⟨some 4, .assign (.tmp 89), 4, "ref.go:38", #[⟨29, .data⟩, ⟨25, .chain⟩, ⟨0, .phase⟩, ⟨1, .phase⟩, ⟨2, .phase⟩, ⟨3, .phase⟩, ⟨4, .phase⟩, ⟨5, .phase⟩, ⟨6, .phase⟩, ⟨7, .phase⟩, ⟨8, .phase⟩, ⟨9, .phase⟩, ⟨10, .phase⟩, ⟨11, .phase⟩, ⟨12, .phase⟩, ⟨13, .phase⟩, ⟨14, .phase⟩, ⟨15, .phase⟩, ⟨16, .phase⟩, ⟨17, .phase⟩, ⟨18, .phase⟩, ⟨19, .phase⟩, ⟨20, .phase⟩, ⟨21, .phase⟩, ⟨22, .phase⟩, ⟨23, .phase⟩, ⟨24, .phase⟩, ⟨25, .phase⟩, ⟨26, .phase⟩, ⟨27, .phase⟩, ⟨28, .phase⟩, ⟨29, .phase⟩], none⟩ ?v33 rfl (by kernel_rfl) (by rfl) ?y33 ?_
                  case y33 => intro w hSw; (try dsimp only at hSw); go_simp; all_goals with_reducible rfl
                  try simp only [apt12]
                  refine wpAnyH_done (by kernel_rfl) ?_ _
                  go_wp2
                  go_ret
                  exact ⟨ret_bool (by rw [HO.out, HK.out]; simp [X4.out, X5.out, x6a, x7a]), HW.out.drew.trans (hb.mono HW.out.size)⟩
              · have x6a : decide ((o.slots.length : Int) ≤ 64) = false := by simpa using x6
                have X6 := hid x6
                clear x6
                refine tkI 11 ⟨some 71, .fieldAddr 41 (.tmp 3) 2, 0, "ref.go:38", #[⟨10, .guard⟩], some (10, true)⟩ ?v39 rfl (by kernel_rfl) (by rfl) ?y39 ?_
                case y39 => intro w hSw; (try dsimp only at hSw); go_simp; all_goals with_reducible rfl
                try simp only [apt12]
                refine tkI 12 ⟨some 72, .load 34 (.tmp 71), 34, "ref.go:38", #[⟨11, .data⟩, ⟨10, .guard⟩], some (10, true)⟩ ?v40 rfl (by kernel_rfl) (by rfl) ?y40 ?_
                case y40 => intro w hSw; (try dsimp only at hSw); go_simp; all_goals with_reducible rfl
                try simp only [apt12]
                refine tkI 13 ⟨some 73, .call { callee := .builtin .len, args := #[.tmp 72], argTypes := #[34] }, 3, "ref.go:38", #[⟨12, .data⟩, ⟨10, .guard⟩], some (10, true)⟩ ?v41 rfl (by kernel_rfl) (by rfl) ?y41 ?_
                case y41 => intro w hSw; (try dsimp only at hSw); go_simp; all_goals with_reducible rfl
                try simp only [apt12]
                refine tkI 14 ⟨some 74, .binOp .leq 3 (.tmp 73) (.const (Go.Value.int .i64 64)) 3, 4, "ref.go:38", #[⟨13, .data⟩, ⟨10, .guard⟩], some (10, true)⟩ ?v42 rfl (by kernel_rfl) (by rfl) ?y42 ?_
                case y42 => intro w hSw; (try dsimp only at hSw); go_simp; all_goals with_reducible rfl
                try simp only [apt12]
                refine tkI 15 ⟨some 75, .pick (.tmp 70) (.tmp 74) (.const (Go.Value.bool false)), 4, "ref.go:38", #[⟨10, .data⟩, ⟨14, .data⟩], none⟩ ?v43 rfl (by kernel_rfl) (by rfl) ?y43 ?_
                case y43 => intro w hSw; (try dsimp only at hSw); go_simp; all_goals with_reducible rfl
                try simp only [apt12]
                refine tkI 16 ⟨some 76, .move (.tmp 75), 4, "ref.go:38", #[⟨15, .data⟩, ⟨10, .chain⟩], none⟩ ?v44 rfl (by kernel_rfl) (by rfl) ?y44 ?_
                case y44 => intro w hSw; (try dsimp only at hSw); go_simp; all_goals with_reducible rfl
                try simp only [apt12]
                refine tkO 17 ⟨some 77, .fieldAddr 41 (.tmp 3) 3, 0, "ref.go:38", #[⟨16, .guard⟩], some (16, true)⟩ rfl (by kernel_rfl) (by rfl) ?_
                try simp only [apt12]
                refine tkO 18 ⟨some 78, .load 9 (.tmp 77), 9, "ref.go:38", #[⟨17, .data⟩, ⟨16, .guard⟩], some (16, true)⟩ rfl (by kernel_rfl) (by rfl) ?_
                try simp only [apt12]
                refine tkO 19 ⟨some 79, .call { callee := .builtin .len, args := #[.tmp 78], argTypes := #[9] }, 3, "ref.go:38", #[⟨18, .data⟩, ⟨16, .guard⟩], some (16, true)⟩ rfl (by kernel_rfl) (by rfl) ?_
                try simp only [apt12]
                refine tkO 20 ⟨some 80, .binOp .leq 3 (.tmp 79) (.const (Go.Value.int .i64 64)) 3, 4, "ref.go:38", #[⟨19, .data⟩, ⟨16, .guard⟩], some (16, true)⟩ rfl (by kernel_rfl) (by rfl) ?_
                try simp only [apt12]
                refine tkI 21 ⟨some 81, .pick (.tmp 76) (.tmp 80) (.const (Go.Value.bool false)), 4, "ref.go:38", #[⟨16, .data⟩, ⟨20, .data⟩], none⟩ ?v45 rfl (by kernel_rfl) (by rfl) ?y45 ?_
                case y45 => intro w hSw; (try dsimp only at hSw); go_simp; all_goals with_reducible rfl
                try simp only [apt12]
                refine tkI 22 ⟨some 82, .move (.tmp 81), 4, "ref.go:38", #[⟨21, .data⟩, ⟨16, .chain⟩], none⟩ ?v46 rfl (by kernel_rfl) (by rfl) ?y46 ?_
                case y46 => intro w hSw; (try dsimp only at hSw); go_simp; all_goals with_reducible rfl
                try simp only [apt12]
                refine tkO 23 ⟨some 83, .fieldAddr 41 (.tmp 3) 4, 0, "ref.go:38", #[⟨22, .guard⟩], some (22, true)⟩ rfl (by kernel_rfl) (by rfl) ?_
                try simp only [apt12]
                refine tkO 24 ⟨some 84, .load 3 (.tmp 83), 3, "ref.go:38", #[⟨23, .data⟩, ⟨22, .guard⟩], some (22, true)⟩ rfl (by kernel_rfl) (by rfl) ?_
                try simp only [apt12]
                refine tkO 25 ⟨some 85, .call { callee := .value (.func 111), args := #[.tmp 84], argTypes := #[3] }, 3, "ref.go:38", #[⟨24, .data⟩, ⟨22, .chain⟩, ⟨22, .guard⟩], some (22, true)⟩ rfl (by kernel_rfl) (by rfl) ?_
                try simp only [apt12]
                refine tkO 26 ⟨some 86, .fieldAddr 41 (.tmp 3) 4, 0, "ref.go:38", #[⟨22, .guard⟩], some (22, true)⟩ rfl (by kernel_rfl) (by rfl) ?_
                try simp only [apt12]
                refine tkO 27 ⟨some 87, .load 3 (.tmp 86), 3, "ref.go:38", #[⟨26, .data⟩, ⟨22, .guard⟩], some (22, true)⟩ rfl (by kernel_rfl) (by rfl) ?_
                try simp only [apt12]
                refine tkO 28 ⟨some 88, .binOp .eql 3 (.tmp 85) (.tmp 87) 3, 4, "ref.go:38", #[⟨25, .data⟩, ⟨27, .data⟩, ⟨22, .guard⟩], some (22, true)⟩ rfl (by kernel_rfl) (by rfl) ?_
                try simp only [apt12]
                refine tkI 29 ⟨some 89, .pick (.tmp 82) (.tmp 88) (.const (Go.Value.bool false)), 4, "ref.go:38", #[⟨22, .data⟩, ⟨28, .data⟩], none⟩ ?v47 rfl (by kernel_rfl) (by rfl) ?y47 ?_
                case y47 => intro w hSw; (try dsimp only at hSw); go_simp; all_goals with_reducible rfl
                try simp only [apt12]
                refine tkI 30 ⟨some 4, .assign (.tmp 89), 4, "ref.go:38", #[⟨29, .data⟩, ⟨25, .chain⟩, ⟨0, .phase⟩, ⟨1, .phase⟩, ⟨2, .phase⟩, ⟨3, .phase⟩, ⟨4, .phase⟩, ⟨5, .phase⟩, ⟨6, .phase⟩, ⟨7, .phase⟩, ⟨8, .phase⟩, ⟨9, .phase⟩, ⟨10, .phase⟩, ⟨11, .phase⟩, ⟨12, .phase⟩, ⟨13, .phase⟩, ⟨14, .phase⟩, ⟨15, .phase⟩, ⟨16, .phase⟩, ⟨17, .phase⟩, ⟨18, .phase⟩, ⟨19, .phase⟩, ⟨20, .phase⟩, ⟨21, .phase⟩, ⟨22, .phase⟩, ⟨23, .phase⟩, ⟨24, .phase⟩, ⟨25, .phase⟩, ⟨26, .phase⟩, ⟨27, .phase⟩, ⟨28, .phase⟩, ⟨29, .phase⟩], none⟩ ?v48 rfl (by kernel_rfl) (by rfl) ?y48 ?_
                case y48 => intro w hSw; (try dsimp only at hSw); go_simp; all_goals with_reducible rfl
                try simp only [apt12]
                refine wpAnyH_done (by kernel_rfl) ?_ _
                go_wp2
                go_ret
                exact ⟨ret_bool (by rw [HO.out, HK.out]; simp [X4.out, X5.out, x6a]), HW.out.drew.trans (hb.mono HW.out.size)⟩
            · have x5a : haB o.hash = false := by simpa using x5
              have X5 := hid x5
              clear x5
              refine tkI 6 ⟨some 66, .fieldAddr 41 (.tmp 3) 5, 0, "ref.go:38", #[⟨5, .guard⟩], some (5, true)⟩ ?v53 rfl (by kernel_rfl) (by rfl) ?y53 ?_
              case y53 => intro w hSw; (try dsimp only at hSw); go_simp; all_goals with_reducible rfl
              try simp only [apt12]
              refine tkI 7 ⟨some 67, .load 3 (.tmp 66), 3, "ref.go:38", #[⟨6, .data⟩, ⟨5, .guard⟩], some (5, true)⟩ ?v54 rfl (by kernel_rfl) (by rfl) ?y54 ?_
              case y54 => intro w hSw; (try dsimp only at hSw); go_simp; all_goals with_reducible rfl
              try simp only [apt12]
              refine wpAnyH_ready (rs := [8]) (by kernel_rfl) (by simp) ?_
              refine AllReadyH.cons (i := 8) (o := ⟨some 68, .call { callee := .value (.func 59), args := #[.tmp 67], argTypes := #[3] }, 4, "ref.go:38", #[⟨7, .data⟩, ⟨5, .chain⟩, ⟨5, .guard⟩], some (5, true)⟩) rfl (fun K hK => ?_) AllReadyH.nil
              go_simp
              go_at_call 59; refine (rhash_any _ _).mono ?_; rintro e w'' ⟨rfl, rfl⟩
              refine hK.out _ _ ?_ (fun hHeld => ?_)
              · assumption
              clear hK K
              try simp only [apt12]
              refine tkI 9 ⟨some 69, .pick (.tmp 65) (.tmp 68) (.const (Go.Value.bool false)), 4, "ref.go:38", #[⟨5, .data⟩, ⟨8, .data⟩], none⟩ ?v55 rfl (by kernel_rfl) (by rfl) ?y55 ?_
              case y55 => intro w hSw; (try dsimp only at hSw); go_simp; all_goals with_reducible rfl
              try simp only [apt12]
              refine tkI 10 ⟨some 70, .move (.tmp 69), 4, "ref.go:38", #[⟨9, .data⟩, ⟨8, .chain⟩], none⟩ ?v56 rfl (by kernel_rfl) (by rfl) ?y56 ?_
              case y56 => intro w hSw; (try dsimp only at hSw); go_simp; all_goals with_reducible rfl
              try simp only [apt12]
              refine tkO 11 ⟨some 71, .fieldAddr 41 (.tmp 3) 2, 0, "ref.go:38", #[⟨10, .guard⟩], some (10, true)⟩ rfl (by kernel_rfl) (by rfl) ?_
              try simp only [apt12]
              refine tkO 12 ⟨some 72, .load 34 (.tmp 71), 34, "ref.go:38", #[⟨11, .data⟩, ⟨10, .guard⟩], some (10, true)⟩ rfl (by kernel_rfl) (by rfl) ?_
              try simp only [apt12]
              refine tkO 13 ⟨some 73, .call { callee := .builtin .len, args := #[.tmp 72], argTypes := #[34] }, 3, "ref.go:38", #[⟨12, .data⟩, ⟨10, .guard⟩], some (10, true)⟩ rfl (by kernel_rfl) (by rfl) ?_
              try simp only [apt12]
              refine tkO 14 ⟨some 74, .binOp .leq 3 (.tmp 73) (.const (Go.Value.int .i64 64)) 3, 4, "ref.go:38", #[⟨13, .data⟩, ⟨10, .guard⟩], some (10, true)⟩ rfl (by kernel_rfl) (by rfl) ?_
              try simp only [apt12]
              refine tkI 15 ⟨some 75, .pick (.tmp 70) (.tmp 74) (.const (Go.Value.bool false)), 4, "ref.go:38", #[⟨10, .data⟩, ⟨14, .data⟩], none⟩ ?v57 rfl (by kernel_rfl) (by rfl) ?y57 ?_
              case y57 => intro w hSw; (try dsimp only at hSw); go_simp; all_goals with_reducible rfl
              try simp only [apt12]
              refine tkI 16 ⟨some 76, .move (.tmp 75), 4, "ref.go:38", #[⟨15, .data⟩, ⟨10, .chain⟩], none⟩ ?v58 rfl (by kernel_rfl) (by rfl) ?y58 ?_
              case y58 => intro w hSw; (try dsimp only at hSw); go_simp; all_goals with_reducible rfl
              try simp only [apt12]
              refine tkO 17 ⟨some 77, .fieldAddr 41 (.tmp 3) 3, 0, "ref.go:38", #[⟨16, .guard⟩], some (16, true)⟩ rfl (by kernel_rfl) (by rfl) ?_
              try simp only [apt12]
              refine tkO 18 ⟨some 78, .load 9 (.tmp 77), 9, "ref.go:38", #[⟨17, .data⟩, ⟨16, .guard⟩], some (16, true)⟩ rfl (by kernel_rfl) (by rfl) ?_
              try simp only [apt12]
              refine tkO 19 ⟨some 79, .call { callee := .builtin .len, args := #[.tmp 78], argTypes := #[9] }, 3, "ref.go:38", #[⟨18, .data⟩, ⟨16, .guard⟩], some (16, true)⟩ rfl (by kernel_rfl) (by rfl) ?_
              try simp only [apt12]
              refine tkO 20 ⟨some 80, .binOp .leq 3 (.tmp 79) (.const (Go.Value.int .i64 64)) 3, 4, "ref.go:38", #[⟨19, .data⟩, ⟨16, .guard⟩], some (16, true)⟩ rfl (by kernel_rfl) (by rfl) ?_
              try simp only [apt12]
              refine tkI 21 ⟨some 81, .pick (.tmp 76) (.tmp 80) (.const (Go.Value.bool false)), 4, "ref.go:38", #[⟨16, .data⟩, ⟨20, .data⟩], none⟩ ?v59 rfl (by kernel_rfl) (by rfl) ?y59 ?_
              case y59 => intro w hSw; (try dsimp only at hSw); go_simp; all_goals with_reducible rfl
              try simp only [apt12]
              refine tkI 22 ⟨some 82, .move (.tmp 81), 4, "ref.go:38", #[⟨21, .data⟩, ⟨16, .chain⟩], none⟩ ?v60 rfl (by kernel_rfl) (by rfl) ?y60 ?_
              case y60 => intro w hSw; (try dsimp only at hSw); go_simp; all_goals with_reducible rfl
              try simp only [apt12]
              refine tkO 23 ⟨some 83, .fieldAddr 41 (.tmp 3) 4, 0, "ref.go:38", #[⟨22, .guard⟩], some (22, true)⟩ rfl (by kernel_rfl) (by rfl) ?_
              try simp only [apt12]
              refine tkO 24 ⟨some 84, .load 3 (.tmp 83), 3, "ref.go:38", #[⟨23, .data⟩, ⟨22, .guard⟩], some (22, true)⟩ rfl (by kernel_rfl) (by rfl) ?_
              try simp only [apt12]
              refine tkO 25 ⟨some 85, .call { callee := .value (.func 111), args := #[.tmp 84], argTypes := #[3] }, 3, "ref.go:38", #[⟨24, .data⟩, ⟨22, .chain⟩, ⟨22, .guard⟩], some (22, true)⟩ rfl (by kernel_rfl) (by rfl) ?_
              try simp only [apt12]
              refine tkO 26 ⟨some 86, .fieldAddr 41 (.tmp 3) 4, 0, "ref.go:38", #[⟨22, .guard⟩], some (22, true)⟩ rfl (by kernel_rfl) (by rfl) ?_
              try simp only [apt12]
              refine tkO 27 ⟨some 87, .load 3 (.tmp 86), 3, "ref.go:38", #[⟨26, .data⟩, ⟨22, .guard⟩], some (22, true)⟩ rfl (by kernel_rfl) (by rfl) ?_
              try simp only [apt12]
              refine tkO 28 ⟨some 88, .binOp .eql 3 (.tmp 85) (.tmp 87) 3, 4, "ref.go:38", #[⟨25, .data⟩, ⟨27, .data⟩, ⟨22, .guard⟩], some (22, true)⟩ rfl (by kernel_rfl) (by rfl) ?_
              try simp only [apt12]
              refine tkI 29 ⟨some 89, .pick (.tmp 82) (.tmp 88) (.const (Go.Value.bool false)), 4, "ref.go:38", #[⟨22, .data⟩, ⟨28, .data⟩], none⟩ ?v61 rfl (by kernel_rfl) (by rfl) ?y61 ?_
              case y61 => intro w hSw; (try dsimp only at hSw); go_simp; all_goals with_reducible rfl
              try simp only [apt12]
              refine tkI 30 ⟨some 4, .assign (.tmp 89), 4, "ref.go:38", #[⟨29, .data⟩, ⟨25, .chain⟩, ⟨0, .phase⟩, ⟨1, .phase⟩, ⟨2, .phase⟩, ⟨3, .phase⟩, ⟨4, .phase⟩, ⟨5, .phase⟩, ⟨6, .phase⟩, ⟨7, .phase⟩, ⟨8, .phase⟩, ⟨9, .phase⟩, ⟨10, .phase⟩, ⟨11, .phase⟩, ⟨12, .phase⟩, ⟨13, .phase⟩, ⟨14, .phase⟩, ⟨15, .phase⟩, ⟨16, .phase⟩, ⟨17, .phase⟩, ⟨18, .phase⟩, ⟨19, .phase⟩, ⟨20, .phase⟩, ⟨21, .phase⟩, ⟨22, .phase⟩, ⟨23, .phase⟩, ⟨24, .phase⟩, ⟨25, .phase⟩, ⟨26, .phase⟩, ⟨27, .phase⟩, ⟨28, .phase⟩, ⟨29, .phase⟩], none⟩ ?v62 rfl (by kernel_rfl) (by rfl) ?y62 ?_
              case y62 => intro w hSw; (try dsimp only at hSw); go_simp; all_goals with_reducible rfl
              try simp only [apt12]
              refine wpAnyH_done (by kernel_rfl) ?_ _
              go_wp2
              go_ret
              exact ⟨ret_bool (by rw [HO.out, HK.out]; simp [X4.out, X5.out]), HW.out.drew.trans (hb.mono HW.out.size)⟩
          · have x4a : decide (0 ≤ refI h.objs.length o.cls) = false := by simp [refI, x4]
            have X4 := hid x4
            clear x4
            refine tkI 4 ⟨some 64, .binOp .geq 3 (.tmp 63) (.const (Go.Value.int .i64 0)) 3, 4, "ref.go:38", #[⟨3, .data⟩], none⟩ ?v65 rfl (by kernel_rfl) (by rfl) ?y65 ?_
            case y65 => intro w hSw; (try dsimp only at hSw); go_simp; all_goals with_reducible rfl
            try simp only [apt12]
            refine tkI 5 ⟨some 65, .move (.tmp 64), 4, "ref.go:38", #[⟨4, .data⟩, ⟨3, .chain⟩], none⟩ ?v66 rfl (by kernel_rfl) (by rfl) ?y66 ?_
            case y66 => intro w hSw; (try dsimp only at hSw); go_simp; all_goals with_reducible rfl
            try simp only [apt12]
            refine tkO 6 ⟨some 66, .fieldAddr 41 (.tmp 3) 5, 0, "ref.go:38", #[⟨5, .guard⟩], some (5, true)⟩ rfl (by kernel_rfl) (by rfl) ?_
            try simp only [apt12]
            refine tkO 7 ⟨some 67, .load 3 (.tmp 66), 3, "ref.go:38", #[⟨6, .data⟩, ⟨5, .guard⟩], some (5, true)⟩ rfl (by kernel_rfl) (by rfl) ?_
            try simp only [apt12]
            refine tkO 8 ⟨some 68, .call { callee := .value (.func 59), args := #[.tmp 67], argTypes := #[3] }, 4, "ref.go:38", #[⟨7, .data⟩, ⟨5, .chain⟩, ⟨5, .guard⟩], some (5, true)⟩ rfl (by kernel_rfl) (by rfl) ?_
            try simp only [apt12]
            refine tkI 9 ⟨some 69, .pick (.tmp 65) (.tmp 68) (.const (Go.Value.bool false)), 4, "ref.go:38", #[⟨5, .data⟩, ⟨8, .data⟩], none⟩ ?v67 rfl (by kernel_rfl) (by rfl) ?y67 ?_
            case y67 => intro w hSw; (try dsimp only at hSw); go_simp; all_goals with_reducible rfl
            try simp only [apt12]
            refine tkI 10 ⟨some 70, .move (.tmp 69), 4, "ref.go:38", #[⟨9, .data⟩, ⟨8, .chain⟩], none⟩ ?v68 rfl (by kernel_rfl) (by rfl) ?y68 ?_
            case y68 => intro w hSw; (try dsimp only at hSw); go_simp; all_goals with_reducible rfl
            try simp only [apt12]
            refine tkO 11 ⟨some 71, .fieldAddr 41 (.tmp 3) 2, 0, "ref.go:38", #[⟨10, .guard⟩], some (10, true)⟩ rfl (by kernel_rfl) (by rfl) ?_
            try simp only [apt12]
            refine tkO 12 ⟨some 72, .load 34 (.tmp 71), 34, "ref.go:38", #[⟨11, .data⟩, ⟨10, .guard⟩], some (10, true)⟩ rfl (by kernel_rfl) (by rfl) ?_
            try simp only [apt12]
            refine tkO 13 ⟨some 73, .call { callee := .builtin .len, args := #[.tmp 72], argTypes := #[34] }, 3, "ref.go:38", #[⟨12, .data⟩, ⟨10, .guard⟩], some (10, true)⟩ rfl (by kernel_rfl) (by rfl) ?_
            try simp only [apt12]
            refine tkO 14 ⟨some 74, .binOp .leq 3 (.tmp 73) (.const (Go.Value.int .i64 64)) 3, 4, "ref.go:38", #[⟨13, .data⟩, ⟨10, .guard⟩], some (10, true)⟩ rfl (by kernel_rfl) (by rfl) ?_
            try simp only [apt12]
            refine tkI 15 ⟨some 75, .pick (.tmp 70) (.tmp 74) (.const (Go.Value.bool false)), 4, "ref.go:38", #[⟨10, .data⟩, ⟨14, .data⟩], none⟩ ?v69 rfl (by kernel_rfl) (by rfl) ?y69 ?_
            case y69 => intro w hSw; (try dsimp only at hSw); go_simp; all_goals with_reducible rfl
            try simp only [apt12]
            refine tkI 16 ⟨some 76, .move (.tmp 75), 4, "ref.go:38", #[⟨15, .data⟩, ⟨10, .chain⟩], none⟩ ?v70 rfl (by kernel_rfl) (by rfl) ?y70 ?_
            case y70 => intro w hSw; (try dsimp only at hSw); go_simp; all_goals with_reducible rfl
            try simp only [apt12]
            refine tkO 17 ⟨some 77, .fieldAddr 41 (.tmp 3) 3, 0, "ref.go:38", #[⟨16, .guard⟩], some (16, true)⟩ rfl (by kernel_rfl) (by rfl) ?_
            try simp only [apt12]
            refine tkO 18 ⟨some 78, .load 9 (.tmp 77), 9, "ref.go:38", #[⟨17, .data⟩, ⟨16, .guard⟩], some (16, true)⟩ rfl (by kernel_rfl) (by rfl) ?_
            try simp only [apt12]
            refine tkO 19 ⟨some 79, .call { callee := .builtin .len, args := #[.tmp 78], argTypes := #[9] }, 3, "ref.go:38", #[⟨18, .data⟩, ⟨16, .guard⟩], some (16, true)⟩ rfl (by kernel_rfl) (by rfl) ?_
            try simp only [apt12]
            refine tkO 20 ⟨some 80, .binOp .leq 3 (.tmp 79) (.const (Go.Value.int .i64 64)) 3, 4, "ref.go:38", #[⟨19, .data⟩, ⟨16, .guard⟩], some (16, true)⟩ rfl (by kernel_rfl) (by rfl) ?_
            try simp only [apt12]
            refine tkI 21 ⟨some 81, .pick (.tmp 76) (.tmp 80) (.const (Go.Value.bool false)), 4, "ref.go:38", #[⟨16, .data⟩, ⟨20, .data⟩], none⟩ ?v71 rfl (by kernel_rfl) (by rfl) ?y71 ?_
            case y71 => intro w hSw; (try dsimp only at hSw); go_simp; all_goals with_reducible rfl
            try simp only [apt12]
            refine tkI 22 ⟨some 82, .move (.tmp 81), 4, "ref.go:38", #[⟨21, .data⟩, ⟨16, .chain⟩], none⟩ ?v72 rfl (by kernel_rfl) (by rfl) ?y72 ?_
            case y72 => intro w hSw; (try dsimp only at hSw); go_simp; all_goals with_reducible rfl
            try simp only [apt12]
            refine tkO 23 ⟨some 83, .fieldAddr 41 (.tmp 3) 4, 0, "ref.go:38", #[⟨22, .guard⟩], some (22, true)⟩ rfl (by kernel_rfl) (by rfl) ?_
            try simp only [apt12]
            refine tkO 24 ⟨some 84, .load 3 (.tmp 83), 3, "ref.go:38", #[⟨23, .data⟩, ⟨22, .guard⟩], some (22, true)⟩ rfl (by kernel_rfl) (by rfl) ?_
            try simp only [apt12]
            refine tkO 25 ⟨some 85, .call { callee := .value (.func 111), args := #[.tmp 84], argTypes := #[3] }, 3, "ref.go:38", #[⟨24, .data⟩, ⟨22, .chain⟩, ⟨22, .guard⟩], some (22, true)⟩ rfl (by kernel_rfl) (by rfl) ?_
            try simp only [apt12]
            refine tkO 26 ⟨some 86, .fieldAddr 41 (.tmp 3) 4, 0, "ref.go:38", #[⟨22, .guard⟩], some (22, true)⟩ rfl (by kernel_rfl) (by rfl) ?_
            try simp only [apt12]
            refine tkO 27 ⟨some 87, .load 3 (.tmp 86), 3, "ref.go:38", #[⟨26, .data⟩, ⟨22, .guard⟩], some (22, true)⟩ rfl (by kernel_rfl) (by rfl) ?_
            try simp only [apt12]
            refine tkO 28 ⟨some 88, .binOp .eql 3 (.tmp 85) (.tmp 87) 3, 4, "ref.go:38", #[⟨25, .data⟩, ⟨27, .data⟩, ⟨22, .guard⟩], some (22, true)⟩ rfl (by kernel_rfl) (by rfl) ?_
            try simp only [apt12]
            refine tkI 29 ⟨some 89, .pick (.tmp 82) (.tmp 88) (.const (Go.Value.bool false)), 4, "ref.go:38", #[⟨22, .data⟩, ⟨28, .data⟩], none⟩ ?v73 rfl (by kernel_rfl) (by rfl) ?y73 ?_
            case y73 => intro w hSw; (try dsimp only at hSw); go_simp; all_goals with_reducible rfl
            try simp only [apt12]
            refine tkI 30 ⟨some 4, .assign (.tmp 89), 4, "ref.go:38", #[⟨29, .data⟩, ⟨25, .chain⟩, ⟨0, .phase⟩, ⟨1, .phase⟩, ⟨2, .phase⟩, ⟨3, .phase⟩, ⟨4, .phase⟩, ⟨5, .phase⟩, ⟨6, .phase⟩, ⟨7, .phase⟩, ⟨8, .phase⟩, ⟨9, .phase⟩, ⟨10, .phase⟩, ⟨11, .phase⟩, ⟨12, .phase⟩, ⟨13, .phase⟩, ⟨14, .phase⟩, ⟨15, .phase⟩, ⟨16, .phase⟩, ⟨17, .phase⟩, ⟨18, .phase⟩, ⟨19, .phase⟩, ⟨20, .phase⟩, ⟨21, .phase⟩, ⟨22, .phase⟩, ⟨23, .phase⟩, ⟨24, .phase⟩, ⟨25, .phase⟩, ⟨26, .phase⟩, ⟨27, .phase⟩, ⟨28, .phase⟩, ⟨29, .phase⟩], none⟩ ?v74 rfl (by kernel_rfl) (by rfl) ?y74 ?_
            case y74 => intro w hSw; (try dsimp only at hSw); go_simp; all_goals with_reducible rfl
            try simp only [apt12]
            refine wpAnyH_done (by kernel_rfl) ?_ _
            go_wp2
            go_ret
            exact ⟨ret_bool (by rw [HO.out, HK.out]; simp [X4.out]), HW.out.drew.trans (hb.mono HW.out.size)⟩
        · have HK := hid (hkt rfl)
          clear hkt hkf
          go_wp2
          go_ret
          exact ⟨ret_bool (by rw [HO.out, HK.out]; simp), HW.out⟩
end Go.Proofs.YtnilempeldlieaaGreat
