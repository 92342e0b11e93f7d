/- The document's writer of bytes: a number in four bytes, how many and each. The document's writer of bytes: an object. The document's word on what may be: a heap, and roots. The document's bytes of a heap with roots. -/
import Derived.Test.YthggafdfglojaaaKB8
import Derived.Test.YthggafdfglojaaaQY
import Derived.Test.YthggafdfglojaaaKA8
import Derived.Test.YthggafdfglojaaaR
import Derived.Test.YthggafdfglojaaaQR
import Derived.Test.YthggafdfglojaaaQZ
namespace Go.Proofs.Ythggafdfglojaaa
open Go.RowKit
set_option maxRecDepth 100000
theorem n4_str (n : Int) : b4B (n % 4294967296).toNat = str (n4 n) := rfl
theorem rnum_any8 (n : Int) (w : World) : Calls Try.prog 79 #[.int .i64 n] w fun e w' => e = .returned (.string (str (n4 n))) ∧ Below w.heap.size w w' := by
  obtain ⟨m, hm⟩ : ∃ m, m = (n % 4294967296).toNat := ⟨_, rfl⟩
  have hml : m < 4294967296 := by omega
  have e1 : bits .and .i64 n 4294967295 = (m : Int) := by
    rw [and_mask n 32 (by omega) 4294967295 (by decide), hm]
    have : ((2 ^ 32 : Nat) : Int) = 4294967296 := by decide
    rw [this]; omega
  have E2 : Hid (boI (m : Int) = str (n4 n)) := by show _ = _; rw [boI_yes hml, hm, n4_str]
  clear hm hml
  go_enter Try.func79, Try.ntmps79
  go_wp2_with fail
  refine (rbytes_any m _).mono ?_
  rintro e w1 ⟨rfl, hb⟩
  rw [E2.out]
  have HB := hid hb
  clear hb
  go_wp2_with fail
  go_ret
  exact ⟨rfl, HB.out⟩
theorem flat_len (l : List Int) : (l.flatMap n4).length = 4 * l.length := by
  induction l with
  | nil => rfl
  | cons n l ih => rw [List.flatMap_cons, List.length_append, n4_len, ih, List.length_cons]; omega
theorem l4_len (l : List Int) : (l4 l).length = 4 + 4 * l.length := by unfold l4; rw [List.length_append, n4_len, flat_len]
theorem flat_step (l : List Int) (k : Nat) (h : k < l.length) : (l.take (k + 1)).flatMap n4 = (l.take k).flatMap n4 ++ n4 l[k] := by
  rw [List.take_succ_eq_append_getElem h, List.flatMap_append]; simp
set_option maxHeartbeats 1000000 in
theorem rlist_any8 (l : List Int) (A : Option Addr) (c : Nat) (w : World) (hr : IntsR w A l) (hl : l.length ≤ 100000) :
    Calls Try.prog 81 #[.slice A l.length c] w fun e w' => e = .returned (.string (str (l4 l))) ∧ Below w.heap.size w w' := by
  have HR := hid hr
  clear hr
  go_enter Try.func81, Try.ntmps81
  go_wp2_with fail
  refine (rnum_any8 l.length _).mono ?_
  rintro e w1 ⟨rfl, hb⟩
  have HB1 := hid hb
  clear hb
  go_wp2_with fail
  go_loopw [4, 3] (fun i s wr => ∃ (k : Nat) (x : List UInt8), k ≤ l.length ∧ i = .int .i64 k ∧ s = .string (str x) ∧ Hid (x = n4 l.length ++ (l.take k).flatMap n4) ∧ Below w.heap.size w wr) (fun i _ _ => l.length - (intOf i).toNat)
  case atStart => exact ⟨0, n4 l.length, Nat.zero_le _, rfl, rfl, hid (by simp), HB1.out⟩
  case round =>
    obtain ⟨k, x, hk, rfl, rfl, HX, hbw⟩ := hrel
    have HW := hid hbw
    clear hbw
    by_cases hlt : k < l.length
    · obtain ⟨bs, os, rfl, hbs, hcs⟩ := HR.out (by omega)
      have c0 := (HW.out.cell (p := ⟨bs, os + k, none⟩) hbs).trans (hcs k _ (List.getElem?_eq_getElem hlt))
      have HST := hid (flat_step l k hlt)
      obtain ⟨y, hy⟩ : ∃ y, y = l[k]'hlt := ⟨_, rfl⟩
      rw [← hy] at c0 HST
      have hxl : x.length ≤ 500000 := by rw [HX.out, List.length_append, n4_len, flat_len, List.length_take]; omega
      have hs1 := str_size x
      have hs2 := (str_size (n4 y)).trans (n4_len y)
      have hap := str_append x (n4 y)
      have n1 : ¬ 9223372036854775807 < x.length + 4 := by omega
      clear hy hcs
      go_wp2_with fail
      refine (rnum_any8 y _).mono ?_
      rintro e w2 ⟨rfl, hb⟩
      have HB2 := hid (HW.out.trans (hb.mono HW.out.size))
      clear hb
      go_wp2_with fail
      go_roundw
      case rel => exact ⟨k + 1, x ++ n4 y, by omega, by go_num, rfl, hid (by rw [HX.out, HST.out, List.append_assoc]), HB2.out⟩
      case measure => simp only [intOf]; omega
    · obtain rfl : k = l.length := by omega
      have HE : Hid (x = l4 l) := by show _ = _; rw [HX.out, List.take_length]; rfl
      go_wp2_with fail
      go_ret
      exact ⟨by rw [← HE.out]; rfl, HW.out⟩
end Go.Proofs.Ythggafdfglojaaa
namespace Go.Proofs.Ythggafdfglojaaa
open Go.RowKit
set_option maxRecDepth 100000
theorem str_text (q : List UInt8) (s : ByteArray) : str q ++ s = str (q ++ s.data.toList) := by
  rw [← str_append, str_list]
set_option maxHeartbeats 2000000 in
theorem robject_any8 (o : Ob) (S : Option Addr) (c : Nat) (w : World) (hs : IntsR w S o.slots) (hl : o.slots.length ≤ 100000) (ht : o.text.size ≤ 100000) :
    Calls Try.prog 80 #[.agg #[.int .i64 o.cls, .int .i64 o.kind, .slice S o.slots.length c, .string o.text, .int .i64 o.bits, .int .i64 o.hash]] w fun e w' => e = .returned (.string (str (oE o))) ∧ Below w.heap.size w w' := by
  obtain ⟨w0, hw0⟩ : ∃ w0, w0 = w.alloc (.cells #[.int .i64 o.cls, .int .i64 o.kind, .slice S o.slots.length c, .string o.text, .int .i64 o.bits, .int .i64 o.hash] 46) := ⟨_, rfl⟩
  have HB0 : Hid (Below w.heap.size w w0) := by show Below _ _ _; rw [hw0]; exact below_alloc _ _
  have HX0 : Hid (Lies w0 w.heap.size 46 #[.int .i64 o.cls, .int .i64 o.kind, .slice S o.slots.length c, .string o.text, .int .i64 o.bits, .int .i64 o.hash]) := by
    show Lies _ _ _ _
    rw [hw0]; exact Lies.new _ _ _
  have HS0 := hid (hs.below HB0.out)
  obtain ⟨a, ha⟩ : ∃ x, x = n4 o.cls := ⟨_, rfl⟩
  obtain ⟨b, hb⟩ : ∃ x, x = n4 o.kind := ⟨_, rfl⟩
  obtain ⟨d, hd⟩ : ∃ x, x = n4 o.hash := ⟨_, rfl⟩
  obtain ⟨ab, hab⟩ : ∃ x, x = a ++ b := ⟨_, rfl⟩
  obtain ⟨q, hq⟩ : ∃ x, x = ab ++ d := ⟨_, rfl⟩
  have HA := hid ha
  have HBB := hid hb
  have HD := hid hd
  have HQ : Hid (q = n4 o.cls ++ (n4 o.kind ++ n4 o.hash)) := by show _ = _; rw [hq, hab, ha, hb, hd, List.append_assoc]
  have z1 : (str a).size = 4 := by rw [str_size, ha, n4_len]
  have z2 : (str b).size = 4 := by rw [str_size, hb, n4_len]
  have z3 : (str d).size = 4 := by rw [str_size, hd, n4_len]
  have z4 : (str ab).size = 8 := by rw [str_size, hab, List.length_append, ha, hb, n4_len, n4_len]
  have z5 : (str q).size = 12 := by rw [str_size, hq, hab, List.length_append, List.length_append, ha, hb, hd, n4_len, n4_len, n4_len]
  have p1 : str a ++ str b = str ab := by rw [str_append, hab]
  have p2 : str ab ++ str d = str q := by rw [str_append, hq]
  clear hs ha hb hd hab hq
  go_enter Try.func80, Try.ntmps80
  go_upto_region 1 with fail
  rw [← hw0]
  clear hw0
  have x0 := HX0.out.cell 0
  have x1 := HX0.out.cell 1
  have x2 := HX0.out.cell 2
  have x3 := HX0.out.cell 3
  have x4 := HX0.out.cell 4
  have x5 := HX0.out.cell 5
  simp only [List.getElem?_toArray, List.getElem?_cons_zero, List.getElem?_cons_succ] at x0 x1 x2 x3 x4 x5
  refine wp_region_held_drew (S := (fun w' => w'.cell? ⟨w.heap.size, 0, none⟩ = some (.int .i64 o.cls) ∧ w'.cell? ⟨w.heap.size, 1, none⟩ = some (.int .i64 o.kind) ∧ w'.cell? ⟨w.heap.size, 5, none⟩ = some (.int .i64 o.hash))) (by kernel_rfl) ?_ (fun hH0 => ?_)
  · exact ⟨x0, x1, x5⟩
  refine wpAnyH_take (i := 0) (oi := { dst := some 4, op := Go.Op.fieldAddr 46 (Go.Operand.tmp 1) 0, type := 0, pos := "ref.go:24", after := #[], guard := none }) (v := ?vv1) rfl (by kernel_rfl) (by kernel_rfl) (by kernel_rfl) (fun _ _ _ h => h) (Or.inl ⟨by rfl, ?hy1⟩) (by assumption) ?rr1
  case hy1 => intro w hSw; (try dsimp only at hSw); go_simp; all_goals with_reducible rfl
  try simp only [Act.put, List.setIfInBounds_toArray, List.set_cons_zero, List.set_cons_succ]
  refine wpAnyH_take (i := 1) (oi := { dst := some 5, op := Go.Op.load 3 (Go.Operand.tmp 4), type := 3, pos := "ref.go:24", after := #[{ on := 0, ground := Go.Ground.data }], guard := none }) (v := ?vv2) rfl (by kernel_rfl) (by kernel_rfl) (by kernel_rfl) (fun _ _ _ h => h) (Or.inl ⟨by rfl, ?hy2⟩) (by assumption) ?rr2
  case hy2 => intro w hSw; (try dsimp only at hSw); go_simp; all_goals with_reducible rfl
  try simp only [Act.put, List.setIfInBounds_toArray, List.set_cons_zero, List.set_cons_succ]
  refine wpAnyH_take (i := 3) (oi := { dst := some 7, op := Go.Op.fieldAddr 46 (Go.Operand.tmp 1) 1, type := 0, pos := "ref.go:24", after := #[], guard := none }) (v := ?vv3) rfl (by kernel_rfl) (by kernel_rfl) (by kernel_rfl) (fun _ _ _ h => h) (Or.inl ⟨by rfl, ?hy3⟩) (by assumption) ?rr3
  case hy3 => intro w hSw; (try dsimp only at hSw); go_simp; all_goals with_reducible rfl
  try simp only [Act.put, List.setIfInBounds_toArray, List.set_cons_zero, List.set_cons_succ]
  refine wpAnyH_take (i := 4) (oi := { dst := some 8, op := Go.Op.load 3 (Go.Operand.tmp 7), type := 3, pos := "ref.go:24", after := #[{ on := 3, ground := Go.Ground.data }], guard := none }) (v := ?vv4) rfl (by kernel_rfl) (by kernel_rfl) (by kernel_rfl) (fun _ _ _ h => h) (Or.inl ⟨by rfl, ?hy4⟩) (by assumption) ?rr4
  case hy4 => intro w hSw; (try dsimp only at hSw); go_simp; all_goals with_reducible rfl
  try simp only [Act.put, List.setIfInBounds_toArray, List.set_cons_zero, List.set_cons_succ]
  refine wpAnyH_take (i := 7) (oi := { dst := some 11, op := Go.Op.fieldAddr 46 (Go.Operand.tmp 1) 5, type := 0, pos := "ref.go:24", after := #[], guard := none }) (v := ?vv5) rfl (by kernel_rfl) (by kernel_rfl) (by kernel_rfl) (fun _ _ _ h => h) (Or.inl ⟨by rfl, ?hy5⟩) (by assumption) ?rr5
  case hy5 => intro w hSw; (try dsimp only at hSw); go_simp; all_goals with_reducible rfl
  try simp only [Act.put, List.setIfInBounds_toArray, List.set_cons_zero, List.set_cons_succ]
  refine wpAnyH_take (i := 8) (oi := { dst := some 12, op := Go.Op.load 3 (Go.Operand.tmp 11), type := 3, pos := "ref.go:24", after := #[{ on := 7, ground := Go.Ground.data }], guard := none }) (v := ?vv6) rfl (by kernel_rfl) (by kernel_rfl) (by kernel_rfl) (fun _ _ _ h => h) (Or.inl ⟨by rfl, ?hy6⟩) (by assumption) ?rr6
  case hy6 => intro w hSw; (try dsimp only at hSw); go_simp; all_goals with_reducible rfl
  try simp only [Act.put, List.setIfInBounds_toArray, List.set_cons_zero, List.set_cons_succ]
  refine wpAnyH_ready (rs := [2]) (by kernel_rfl) (by simp) ?_
  refine AllReadyH.cons (i := 2) (o := { dst := some 6, op := Go.Op.call { callee := Go.Callee.value (Go.Operand.func 79), args := #[Go.Operand.tmp 5], argTypes := #[3] }, type := 9, pos := "ref.go:24", after := #[{ on := 1, ground := Go.Ground.data }], guard := none }) rfl (fun K hK => ?_) AllReadyH.nil
  go_simp
  go_at_call 79
  refine (rnum_any8 (o.cls) _).mono ?_
  rintro e v1 ⟨rfl, hb⟩
  rw [← HA.out]
  have HV1 := hid (then_w (Below.refl w0.heap.size w0).drew hb)
  refine hK.out _ _ ?_ (fun hH1 => ?_)
  · exact ⟨cell_later hb hH0.1, cell_later hb hH0.2.1, cell_later hb hH0.2.2⟩
  clear hK K
  try simp only [Act.put, List.setIfInBounds_toArray, List.set_cons_zero, List.set_cons_succ]
  clear hb
  refine wpAnyH_ready (rs := [5]) (by kernel_rfl) (by simp) ?_
  refine AllReadyH.cons (i := 5) (o := { dst := some 9, op := Go.Op.call { callee := Go.Callee.value (Go.Operand.func 79), args := #[Go.Operand.tmp 8], argTypes := #[3] }, type := 9, pos := "ref.go:24", after := #[{ on := 4, ground := Go.Ground.data }, { on := 2, ground := Go.Ground.chain }], guard := none }) rfl (fun K hK => ?_) AllReadyH.nil
  go_simp
  go_at_call 79
  refine (rnum_any8 (o.kind) _).mono ?_
  rintro e v2 ⟨rfl, hb⟩
  rw [← HBB.out]
  have HV2 := hid (then_w HV1.out hb)
  refine hK.out _ _ ?_ (fun hH2 => ?_)
  · exact ⟨cell_later hb hH1.1, cell_later hb hH1.2.1, cell_later hb hH1.2.2⟩
  clear hK K
  try simp only [Act.put, List.setIfInBounds_toArray, List.set_cons_zero, List.set_cons_succ]
  clear hb
  refine wpAnyH_take (i := 6) (oi := { dst := some 10, op := Go.Op.binOp Go.BinOp.add 9 (Go.Operand.tmp 6) (Go.Operand.tmp 9) 9, type := 9, pos := "ref.go:24", after := #[{ on := 2, ground := Go.Ground.data }, { on := 5, ground := Go.Ground.data }], guard := none }) (v := ?vv7) rfl (by kernel_rfl) (by kernel_rfl) (by kernel_rfl) (fun _ _ _ h => h) (Or.inl ⟨by rfl, ?hy7⟩) (by assumption) ?rr7
  case hy7 => intro w hSw; (try dsimp only at hSw); go_simp; all_goals with_reducible rfl
  try simp only [Act.put, List.setIfInBounds_toArray, List.set_cons_zero, List.set_cons_succ]
  refine wpAnyH_ready (rs := [9]) (by kernel_rfl) (by simp) ?_
  refine AllReadyH.cons (i := 9) (o := { dst := some 13, op := Go.Op.call { callee := Go.Callee.value (Go.Operand.func 79), args := #[Go.Operand.tmp 12], argTypes := #[3] }, type := 9, pos := "ref.go:24", after := #[{ on := 8, ground := Go.Ground.data }, { on := 5, ground := Go.Ground.chain }], guard := none }) rfl (fun K hK => ?_) AllReadyH.nil
  go_simp
  go_at_call 79
  refine (rnum_any8 (o.hash) _).mono ?_
  rintro e v3 ⟨rfl, hb⟩
  rw [← HD.out]
  have HV3 := hid (then_w HV2.out hb)
  refine hK.out _ _ ?_ (fun hH3 => ?_)
  · exact ⟨cell_later hb hH2.1, cell_later hb hH2.2.1, cell_later hb hH2.2.2⟩
  clear hK K
  try simp only [Act.put, List.setIfInBounds_toArray, List.set_cons_zero, List.set_cons_succ]
  clear hb
  refine wpAnyH_take (i := 10) (oi := { dst := some 14, op := Go.Op.binOp Go.BinOp.add 9 (Go.Operand.tmp 10) (Go.Operand.tmp 13) 9, type := 9, pos := "ref.go:24", after := #[{ on := 6, ground := Go.Ground.data }, { on := 9, ground := Go.Ground.data }], guard := none }) (v := ?vv8) rfl (by kernel_rfl) (by kernel_rfl) (by kernel_rfl) (fun _ _ _ h => h) (Or.inl ⟨by rfl, ?hy8⟩) (by assumption) ?rr8
  case hy8 => intro w hSw; (try dsimp only at hSw); go_simp; all_goals with_reducible rfl
  try simp only [Act.put, List.setIfInBounds_toArray, List.set_cons_zero, List.set_cons_succ]
  refine wpAnyH_take (i := 11) (oi := { dst := some 3, op := Go.Op.assign (Go.Operand.tmp 14), type := 9, pos := "ref.go:24", after := #[{ on := 10, ground := Go.Ground.data }, { on := 9, ground := Go.Ground.chain }, { on := 0, ground := Go.Ground.phase }, { on := 1, ground := Go.Ground.phase }, { on := 2, ground := Go.Ground.phase }, { on := 3, ground := Go.Ground.phase }, { on := 4, ground := Go.Ground.phase }, { on := 5, ground := Go.Ground.phase }, { on := 6, ground := Go.Ground.phase }, { on := 7, ground := Go.Ground.phase }, { on := 8, ground := Go.Ground.phase }, { on := 9, ground := Go.Ground.phase }, { on := 10, ground := Go.Ground.phase }], guard := none }) (v := ?vv9) rfl (by kernel_rfl) (by kernel_rfl) (by kernel_rfl) (fun _ _ _ h => h) (Or.inl ⟨by rfl, ?hy9⟩) (by assumption) ?rr9
  case hy9 => intro w hSw; (try dsimp only at hSw); go_simp; all_goals with_reducible rfl
  try simp only [Act.put, List.setIfInBounds_toArray, List.set_cons_zero, List.set_cons_succ]
  refine wpAnyH_done (by kernel_rfl) ?_ _
  obtain ⟨w1, hw1⟩ : ∃ u, u = v3 := ⟨_, rfl⟩
  have hb := HV3.out
  rw [← hw1] at hb ⊢
  have HB1 := hid (HB0.out.trans (hb.mono HB0.out.size))
  have HX1 := hid (HX0.out.later hb)
  have HS1 := hid (HS0.out.below hb)
  clear hb hw1 x0 x1 x2 x3 x4 x5
  have x1 := HX1.out.cell 1
  have x2 := HX1.out.cell 2
  have x3 := HX1.out.cell 3
  have x4 := HX1.out.cell 4
  simp only [List.getElem?_toArray, List.getElem?_cons_zero, List.getElem?_cons_succ] at x1 x2 x3 x4
  by_cases k0 : o.kind = 0
  · obtain ⟨y, hy⟩ : ∃ y, y = l4 o.slots := ⟨_, rfl⟩
    have HY := hid hy
    have z6 : (str y).size = 4 + 4 * o.slots.length := by rw [str_size, hy, l4_len]
    have p3 := str_append q y
    have n1 : ¬ 9223372036854775807 < 12 + (4 + 4 * o.slots.length) := by omega
    have HE : Hid (oE o = q ++ y) := by show _ = _; unfold oE; rw [if_pos k0, HQ.out, ← HY.out]; simp only [List.append_assoc]
    clear hy
    go_wp2_with fail
    refine (rlist_any8 o.slots S c _ HS1.out hl).mono ?_
    rintro e w2 ⟨rfl, hb⟩
    rw [← HY.out]
    have HB2 := hid (HB1.out.trans (hb.mono HB1.out.size))
    clear hb
    go_wp2_with fail
    go_ret
    exact ⟨by rw [HE.out]; rfl, HB2.out⟩
  · by_cases k1 : o.kind = 1
    · obtain ⟨y, hy⟩ : ∃ y, y = n4 o.text.size := ⟨_, rfl⟩
      obtain ⟨q2, hq2⟩ : ∃ x, x = q ++ y := ⟨_, rfl⟩
      have HY := hid hy
      have z6 : (str y).size = 4 := by rw [str_size, hy, n4_len]
      have p3 : str q ++ str y = str q2 := by rw [str_append, hq2]
      have z7 : (str q2).size = 16 := by rw [← p3, ByteArray.size_append, z5, z6]
      have p4 := str_text q2 o.text
      have n1 : ¬ 9223372036854775807 < 16 + o.text.size := by omega
      have HE : Hid (oE o = q2 ++ o.text.data.toList) := by show _ = _; unfold oE; rw [if_neg k0, if_pos k1, hq2, HQ.out, ← hy]; simp only [List.append_assoc]
      clear hy hq2
      go_upto_region 5 with fail
      refine wp_region_held_drew (S := (fun w' => w'.cell? ⟨w.heap.size, 3, none⟩ = some (.string o.text))) (by kernel_rfl) ?_ (fun hH0 => ?_)
      · exact x3
      refine wpAnyH_take (i := 0) (oi := { dst := some 26, op := Go.Op.move (Go.Operand.tmp 3), type := 9, pos := "ref.go:29", after := #[], guard := none }) (v := ?vv10) rfl (by kernel_rfl) (by kernel_rfl) (by kernel_rfl) (fun _ _ _ h => h) (Or.inl ⟨by rfl, ?hy10⟩) (by assumption) ?rr10
      case hy10 => intro w hSw; (try dsimp only at hSw); go_simp; all_goals with_reducible rfl
      try simp only [Act.put, List.setIfInBounds_toArray, List.set_cons_zero, List.set_cons_succ]
      refine wpAnyH_take (i := 1) (oi := { dst := some 27, op := Go.Op.fieldAddr 46 (Go.Operand.tmp 1) 3, type := 0, pos := "ref.go:29", after := #[], guard := none }) (v := ?vv11) rfl (by kernel_rfl) (by kernel_rfl) (by kernel_rfl) (fun _ _ _ h => h) (Or.inl ⟨by rfl, ?hy11⟩) (by assumption) ?rr11
      case hy11 => intro w hSw; (try dsimp only at hSw); go_simp; all_goals with_reducible rfl
      try simp only [Act.put, List.setIfInBounds_toArray, List.set_cons_zero, List.set_cons_succ]
      refine wpAnyH_take (i := 2) (oi := { dst := some 28, op := Go.Op.load 9 (Go.Operand.tmp 27), type := 9, pos := "ref.go:29", after := #[{ on := 1, ground := Go.Ground.data }], guard := none }) (v := ?vv12) rfl (by kernel_rfl) (by kernel_rfl) (by kernel_rfl) (fun _ _ _ h => h) (Or.inl ⟨by rfl, ?hy12⟩) (by assumption) ?rr12
      case hy12 => intro w hSw; (try dsimp only at hSw); go_simp; all_goals with_reducible rfl
      try simp only [Act.put, List.setIfInBounds_toArray, List.set_cons_zero, List.set_cons_succ]
      refine wpAnyH_take (i := 3) (oi := { dst := some 29, op := Go.Op.call { callee := Go.Callee.builtin Go.Builtin.len, args := #[Go.Operand.tmp 28], argTypes := #[9] }, type := 3, pos := "ref.go:29", after := #[{ on := 2, ground := Go.Ground.data }], guard := none }) (v := ?vv13) rfl (by kernel_rfl) (by kernel_rfl) (by kernel_rfl) (fun _ _ _ h => h) (Or.inl ⟨by rfl, ?hy13⟩) (by assumption) ?rr13
      case hy13 => intro w hSw; (try dsimp only at hSw); go_simp; all_goals with_reducible rfl
      try simp only [Act.put, List.setIfInBounds_toArray, List.set_cons_zero, List.set_cons_succ]
      refine wpAnyH_take (i := 6) (oi := { dst := some 32, op := Go.Op.fieldAddr 46 (Go.Operand.tmp 1) 3, type := 0, pos := "ref.go:29", after := #[], guard := none }) (v := ?vv14) rfl (by kernel_rfl) (by kernel_rfl) (by kernel_rfl) (fun _ _ _ h => h) (Or.inl ⟨by rfl, ?hy14⟩) (by assumption) ?rr14
      case hy14 => intro w hSw; (try dsimp only at hSw); go_simp; all_goals with_reducible rfl
      try simp only [Act.put, List.setIfInBounds_toArray, List.set_cons_zero, List.set_cons_succ]
      refine wpAnyH_take (i := 7) (oi := { dst := some 33, op := Go.Op.load 9 (Go.Operand.tmp 32), type := 9, pos := "ref.go:29", after := #[{ on := 6, ground := Go.Ground.data }], guard := none }) (v := ?vv15) rfl (by kernel_rfl) (by kernel_rfl) (by kernel_rfl) (fun _ _ _ h => h) (Or.inl ⟨by rfl, ?hy15⟩) (by assumption) ?rr15
      case hy15 => intro w hSw; (try dsimp only at hSw); go_simp; all_goals with_reducible rfl
      try simp only [Act.put, List.setIfInBounds_toArray, List.set_cons_zero, List.set_cons_succ]
      refine wpAnyH_ready (rs := [4]) (by kernel_rfl) (by simp) ?_
      refine AllReadyH.cons (i := 4) (o := { dst := some 30, op := Go.Op.call { callee := Go.Callee.value (Go.Operand.func 79), args := #[Go.Operand.tmp 29], argTypes := #[3] }, type := 9, pos := "ref.go:29", after := #[{ on := 3, ground := Go.Ground.data }], guard := none }) rfl (fun K hK => ?_) AllReadyH.nil
      go_simp
      go_at_call 79
      refine (rnum_any8 (o.text.size) _).mono ?_
      rintro e v1 ⟨rfl, hb⟩
      rw [← HY.out]
      have HV1 := hid (then_w (Below.refl w1.heap.size w1).drew hb)
      refine hK.out _ _ ?_ (fun hH1 => ?_)
      · exact cell_later hb hH0
      clear hK K
      try simp only [Act.put, List.setIfInBounds_toArray, List.set_cons_zero, List.set_cons_succ]
      clear hb
      refine wpAnyH_take (i := 5) (oi := { dst := some 31, op := Go.Op.binOp Go.BinOp.add 9 (Go.Operand.tmp 26) (Go.Operand.tmp 30) 9, type := 9, pos := "ref.go:29", after := #[{ on := 0, ground := Go.Ground.data }, { on := 4, ground := Go.Ground.data }], guard := none }) (v := ?vv16) rfl (by kernel_rfl) (by kernel_rfl) (by kernel_rfl) (fun _ _ _ h => h) (Or.inl ⟨by rfl, ?hy16⟩) (by assumption) ?rr16
      case hy16 => intro w hSw; (try dsimp only at hSw); go_simp; all_goals with_reducible rfl
      try simp only [Act.put, List.setIfInBounds_toArray, List.set_cons_zero, List.set_cons_succ]
      refine wpAnyH_take (i := 8) (oi := { dst := some 34, op := Go.Op.binOp Go.BinOp.add 9 (Go.Operand.tmp 31) (Go.Operand.tmp 33) 9, type := 9, pos := "ref.go:29", after := #[{ on := 5, ground := Go.Ground.data }, { on := 7, ground := Go.Ground.data }], guard := none }) (v := ?vv17) rfl (by kernel_rfl) (by kernel_rfl) (by kernel_rfl) (fun _ _ _ h => h) (Or.inl ⟨by rfl, ?hy17⟩) (by assumption) ?rr17
      case hy17 => intro w hSw; (try dsimp only at hSw); go_simp; all_goals with_reducible rfl
      try simp only [Act.put, List.setIfInBounds_toArray, List.set_cons_zero, List.set_cons_succ]
      refine wpAnyH_take (i := 9) (oi := { dst := some 2, op := Go.Op.assign (Go.Operand.tmp 34), type := 9, pos := "ref.go:29", after := #[{ on := 8, ground := Go.Ground.data }, { on := 4, ground := Go.Ground.chain }, { on := 0, ground := Go.Ground.phase }, { on := 1, ground := Go.Ground.phase }, { on := 2, ground := Go.Ground.phase }, { on := 3, ground := Go.Ground.phase }, { on := 4, ground := Go.Ground.phase }, { on := 5, ground := Go.Ground.phase }, { on := 6, ground := Go.Ground.phase }, { on := 7, ground := Go.Ground.phase }, { on := 8, ground := Go.Ground.phase }], guard := none }) (v := ?vv18) rfl (by kernel_rfl) (by kernel_rfl) (by kernel_rfl) (fun _ _ _ h => h) (Or.inl ⟨by rfl, ?hy18⟩) (by assumption) ?rr18
      case hy18 => intro w hSw; (try dsimp only at hSw); go_simp; all_goals with_reducible rfl
      try simp only [Act.put, List.setIfInBounds_toArray, List.set_cons_zero, List.set_cons_succ]
      refine wpAnyH_done (by kernel_rfl) ?_ _
      have HB2 := hid (HB1.out.trans (HV1.out.mono HB1.out.size))
      go_wp2_with fail
      go_ret
      exact ⟨by rw [HE.out]; rfl, HB2.out⟩
    · obtain ⟨y, hy⟩ : ∃ y, y = n4 o.bits := ⟨_, rfl⟩
      obtain ⟨y2, hy2⟩ : ∃ y, y = n4 (o.bits / 4294967296) := ⟨_, rfl⟩
      obtain ⟨q2, hq2⟩ : ∃ x, x = q ++ y := ⟨_, rfl⟩
      have HY := hid hy
      have HY2 := hid hy2
      have z6 : (str y).size = 4 := by rw [str_size, hy, n4_len]
      have z8 : (str y2).size = 4 := by rw [str_size, hy2, n4_len]
      have p3 : str q ++ str y = str q2 := by rw [str_append, hq2]
      have z7 : (str q2).size = 16 := by rw [← p3, ByteArray.size_append, z5, z6]
      have p4 := str_append q2 y2
      have HE : Hid (oE o = q2 ++ y2) := by show _ = _; unfold oE; rw [if_neg k0, if_neg k1, hq2, HQ.out, ← hy, ← hy2]; simp only [List.append_assoc]
      clear hy hy2 hq2
      go_upto_region 6 with fail
      refine wp_region_held_drew (S := (fun w' => w'.cell? ⟨w.heap.size, 4, none⟩ = some (.int .i64 o.bits))) (by kernel_rfl) ?_ (fun hH0 => ?_)
      · exact x4
      refine wpAnyH_take (i := 0) (oi := { dst := some 35, op := Go.Op.move (Go.Operand.tmp 3), type := 9, pos := "ref.go:31", after := #[], guard := none }) (v := ?vv19) rfl (by kernel_rfl) (by kernel_rfl) (by kernel_rfl) (fun _ _ _ h => h) (Or.inl ⟨by rfl, ?hy19⟩) (by assumption) ?rr19
      case hy19 => intro w hSw; (try dsimp only at hSw); go_simp; all_goals with_reducible rfl
      try simp only [Act.put, List.setIfInBounds_toArray, List.set_cons_zero, List.set_cons_succ]
      refine wpAnyH_take (i := 1) (oi := { dst := some 36, op := Go.Op.fieldAddr 46 (Go.Operand.tmp 1) 4, type := 0, pos := "ref.go:31", after := #[], guard := none }) (v := ?vv20) rfl (by kernel_rfl) (by kernel_rfl) (by kernel_rfl) (fun _ _ _ h => h) (Or.inl ⟨by rfl, ?hy20⟩) (by assumption) ?rr20
      case hy20 => intro w hSw; (try dsimp only at hSw); go_simp; all_goals with_reducible rfl
      try simp only [Act.put, List.setIfInBounds_toArray, List.set_cons_zero, List.set_cons_succ]
      refine wpAnyH_take (i := 2) (oi := { dst := some 37, op := Go.Op.load 3 (Go.Operand.tmp 36), type := 3, pos := "ref.go:31", after := #[{ on := 1, ground := Go.Ground.data }], guard := none }) (v := ?vv21) rfl (by kernel_rfl) (by kernel_rfl) (by kernel_rfl) (fun _ _ _ h => h) (Or.inl ⟨by rfl, ?hy21⟩) (by assumption) ?rr21
      case hy21 => intro w hSw; (try dsimp only at hSw); go_simp; all_goals with_reducible rfl
      try simp only [Act.put, List.setIfInBounds_toArray, List.set_cons_zero, List.set_cons_succ]
      refine wpAnyH_take (i := 5) (oi := { dst := some 40, op := Go.Op.fieldAddr 46 (Go.Operand.tmp 1) 4, type := 0, pos := "ref.go:31", after := #[], guard := none }) (v := ?vv22) rfl (by kernel_rfl) (by kernel_rfl) (by kernel_rfl) (fun _ _ _ h => h) (Or.inl ⟨by rfl, ?hy22⟩) (by assumption) ?rr22
      case hy22 => intro w hSw; (try dsimp only at hSw); go_simp; all_goals with_reducible rfl
      try simp only [Act.put, List.setIfInBounds_toArray, List.set_cons_zero, List.set_cons_succ]
      refine wpAnyH_take (i := 6) (oi := { dst := some 41, op := Go.Op.load 3 (Go.Operand.tmp 40), type := 3, pos := "ref.go:31", after := #[{ on := 5, ground := Go.Ground.data }], guard := none }) (v := ?vv23) rfl (by kernel_rfl) (by kernel_rfl) (by kernel_rfl) (fun _ _ _ h => h) (Or.inl ⟨by rfl, ?hy23⟩) (by assumption) ?rr23
      case hy23 => intro w hSw; (try dsimp only at hSw); go_simp; all_goals with_reducible rfl
      try simp only [Act.put, List.setIfInBounds_toArray, List.set_cons_zero, List.set_cons_succ]
      refine wpAnyH_take (i := 7) (oi := { dst := some 42, op := Go.Op.binOp Go.BinOp.shr 3 (Go.Operand.tmp 41) (Go.Operand.const (Go.Value.int Go.IntKind.u64 32)) 99, type := 3, pos := "ref.go:31", after := #[{ on := 6, ground := Go.Ground.data }], guard := none }) (v := ?vv24) rfl (by kernel_rfl) (by kernel_rfl) (by kernel_rfl) (fun _ _ _ h => h) (Or.inl ⟨by rfl, ?hy24⟩) (by assumption) ?rr24
      case hy24 => intro w hSw; (try dsimp only at hSw); go_simp; all_goals with_reducible rfl
      try simp only [Act.put, List.setIfInBounds_toArray, List.set_cons_zero, List.set_cons_succ]
      refine wpAnyH_ready (rs := [3]) (by kernel_rfl) (by simp) ?_
      refine AllReadyH.cons (i := 3) (o := { dst := some 38, op := Go.Op.call { callee := Go.Callee.value (Go.Operand.func 79), args := #[Go.Operand.tmp 37], argTypes := #[3] }, type := 9, pos := "ref.go:31", after := #[{ on := 2, ground := Go.Ground.data }], guard := none }) rfl (fun K hK => ?_) AllReadyH.nil
      go_simp
      go_at_call 79
      refine (rnum_any8 (o.bits) _).mono ?_
      rintro e v1 ⟨rfl, hb⟩
      rw [← HY.out]
      have HV1 := hid (then_w (Below.refl w1.heap.size w1).drew hb)
      refine hK.out _ _ ?_ (fun hH1 => ?_)
      · exact cell_later hb hH0
      clear hK K
      try simp only [Act.put, List.setIfInBounds_toArray, List.set_cons_zero, List.set_cons_succ]
      clear hb
      refine wpAnyH_take (i := 4) (oi := { dst := some 39, op := Go.Op.binOp Go.BinOp.add 9 (Go.Operand.tmp 35) (Go.Operand.tmp 38) 9, type := 9, pos := "ref.go:31", after := #[{ on := 0, ground := Go.Ground.data }, { on := 3, ground := Go.Ground.data }], guard := none }) (v := ?vv25) rfl (by kernel_rfl) (by kernel_rfl) (by kernel_rfl) (fun _ _ _ h => h) (Or.inl ⟨by rfl, ?hy25⟩) (by assumption) ?rr25
      case hy25 => intro w hSw; (try dsimp only at hSw); go_simp; all_goals with_reducible rfl
      try simp only [Act.put, List.setIfInBounds_toArray, List.set_cons_zero, List.set_cons_succ]
      refine wpAnyH_ready (rs := [8]) (by kernel_rfl) (by simp) ?_
      refine AllReadyH.cons (i := 8) (o := { dst := some 43, op := Go.Op.call { callee := Go.Callee.value (Go.Operand.func 79), args := #[Go.Operand.tmp 42], argTypes := #[3] }, type := 9, pos := "ref.go:31", after := #[{ on := 7, ground := Go.Ground.data }, { on := 3, ground := Go.Ground.chain }], guard := none }) rfl (fun K hK => ?_) AllReadyH.nil
      go_simp
      go_at_call 79
      refine (rnum_any8 (o.bits / 4294967296) _).mono ?_
      rintro e v2 ⟨rfl, hb⟩
      rw [← HY2.out]
      have HV2 := hid (then_w HV1.out hb)
      refine hK.out _ _ ?_ (fun hH2 => ?_)
      · exact cell_later hb hH1
      clear hK K
      try simp only [Act.put, List.setIfInBounds_toArray, List.set_cons_zero, List.set_cons_succ]
      clear hb
      refine wpAnyH_take (i := 9) (oi := { dst := some 44, op := Go.Op.binOp Go.BinOp.add 9 (Go.Operand.tmp 39) (Go.Operand.tmp 43) 9, type := 9, pos := "ref.go:31", after := #[{ on := 4, ground := Go.Ground.data }, { on := 8, ground := Go.Ground.data }], guard := none }) (v := ?vv26) rfl (by kernel_rfl) (by kernel_rfl) (by kernel_rfl) (fun _ _ _ h => h) (Or.inl ⟨by rfl, ?hy26⟩) (by assumption) ?rr26
      case hy26 => intro w hSw; (try dsimp only at hSw); go_simp; all_goals with_reducible rfl
      try simp only [Act.put, List.setIfInBounds_toArray, List.set_cons_zero, List.set_cons_succ]
      refine wpAnyH_take (i := 10) (oi := { dst := some 2, op := Go.Op.assign (Go.Operand.tmp 44), type := 9, pos := "ref.go:31", after := #[{ on := 9, ground := Go.Ground.data }, { on := 8, ground := Go.Ground.chain }, { on := 0, ground := Go.Ground.phase }, { on := 1, ground := Go.Ground.phase }, { on := 2, ground := Go.Ground.phase }, { on := 3, ground := Go.Ground.phase }, { on := 4, ground := Go.Ground.phase }, { on := 5, ground := Go.Ground.phase }, { on := 6, ground := Go.Ground.phase }, { on := 7, ground := Go.Ground.phase }, { on := 8, ground := Go.Ground.phase }, { on := 9, ground := Go.Ground.phase }], guard := none }) (v := ?vv27) rfl (by kernel_rfl) (by kernel_rfl) (by kernel_rfl) (fun _ _ _ h => h) (Or.inl ⟨by rfl, ?hy27⟩) (by assumption) ?rr27
      case hy27 => intro w hSw; (try dsimp only at hSw); go_simp; all_goals with_reducible rfl
      try simp only [Act.put, List.setIfInBounds_toArray, List.set_cons_zero, List.set_cons_succ]
      refine wpAnyH_done (by kernel_rfl) ?_ _
      have HB2 := hid (HB1.out.trans (HV2.out.mono HB1.out.size))
      go_wp2_with fail
      go_ret
      exact ⟨by rw [HE.out]; rfl, HB2.out⟩
end Go.Proofs.Ythggafdfglojaaa
namespace Go.Proofs.Ythggafdfglojaaa
open Go.RowKit
set_option maxRecDepth 100000
theorem all_step8 (f : Int → Bool) (l : List Int) (k : Nat) (h : k < l.length) : (l.take (k + 1)).all f = ((l.take k).all f && f l[k]) := by
  rw [List.take_succ_eq_append_getElem h, List.all_append]; simp
set_option maxHeartbeats 2000000 in
theorem rmay_any8 (h : Hp) (rs : List Int) (A R : Option Addr) (c d : Nat) (w : World) (hs : ObsR w A h.objs) (fit : h.Fit) (hr : IntsR w R rs) (hl : rs.length ≤ 9223372036854775807) :
    Calls Try.prog 42 #[.agg #[.slice A h.objs.length c, .int .i64 h.cap, .int .i64 h.last], .slice R rs.length d] w fun e w' => e = .returned (.bool (mayR h rs)) ∧ Below w.heap.size w w' := by
  obtain ⟨w0, hw0⟩ : ∃ w0, w0 = w.alloc (.cells #[Value.slice A h.objs.length c, Value.int .i64 h.cap, Value.int .i64 h.last] 24) := ⟨_, rfl⟩
  have HB0 : Hid (Below w.heap.size w w0) := by show Below _ _ _; rw [hw0]; exact below_alloc _ _
  have HX0 : Hid (Lies w0 w.heap.size 24 #[Value.slice A h.objs.length c, Value.int .i64 h.cap, Value.int .i64 h.last]) := by
    show Lies _ _ _ _
    rw [hw0]; exact Lies.new _ _ _
  have HS := hid hs
  have HF := hid fit
  have HR := hid hr
  clear hs fit hr
  go_enter Try.func42, Try.ntmps42
  go_upto_region 1 with fail
  rw [← hw0]
  clear hw0
  go_wp2_with fail
  go_loopw [5] (fun i wr => ∃ k : Nat, k ≤ rs.length ∧ i = .int .i64 k ∧ (rs.take k).all (hasB h.objs.length) = true ∧ Below w.heap.size w wr ∧ Lies wr w.heap.size 24 #[Value.slice A h.objs.length c, Value.int .i64 h.cap, Value.int .i64 h.last]) (fun i _ => rs.length - (intOf i).toNat)
  case atStart => exact ⟨0, Nat.zero_le _, rfl, rfl, HB0.out, HX0.out⟩
  case round =>
    obtain ⟨k, hk, rfl, hall, hbw, hx⟩ := hrel
    have HALL := hid hall
    have HW := hid hbw
    have HX := hid hx
    have x0 := hx.cell 0
    have x1 := hx.cell 1
    have x2 := hx.cell 2
    simp only [List.getElem?_toArray, List.getElem?_cons_zero, List.getElem?_cons_succ] at x0 x1 x2
    clear hall hbw hx
    by_cases hlt : k < rs.length
    · obtain ⟨bs, os, rfl, hbs, hcs⟩ := HR.out (by omega)
      have c0 := (HW.out.cell (p := ⟨bs, os + k, none⟩) hbs).trans (hcs k _ (List.getElem?_eq_getElem hlt))
      have HST := hid (all_step8 (hasB h.objs.length) rs k hlt)
      obtain ⟨y, hy⟩ : ∃ y, y = rs[k]'hlt := ⟨_, rfl⟩
      have HM : Hid (y ∈ rs) := by show y ∈ rs; rw [hy]; exact List.getElem_mem hlt
      rw [← hy] at c0 HST
      clear hy hcs
      cases hb : hasB h.objs.length y
      · go_upto_region 4 with fail
        refine wp_region_held_drew (S := (fun w' => w'.cell? ⟨w.heap.size, 0, none⟩ = some (.slice A h.objs.length c) ∧ w'.cell? ⟨w.heap.size, 1, none⟩ = some (.int .i64 h.cap) ∧ w'.cell? ⟨w.heap.size, 2, none⟩ = some (.int .i64 h.last) ∧ w'.cell? ⟨bs, os + k, none⟩ = some (.int .i64 y))) (by kernel_rfl) ?_ (fun hH0 => ?_)
        · exact ⟨x0, x1, x2, c0⟩
        refine wpAnyH_take (i := 0) (oi := { dst := some 12, op := Go.Op.load 24 (Go.Operand.tmp 2), type := 24, pos := "ref.go:37", after := #[], guard := none }) (v := ?vv1) rfl (by kernel_rfl) (by kernel_rfl) (by kernel_rfl) (fun _ _ _ h => h) (Or.inl ⟨by rfl, ?hy1⟩) (by assumption) ?rr1
        case hy1 => intro w hSw; (try dsimp only at hSw); go_simp; all_goals with_reducible rfl
        try simp only [Act.put, List.setIfInBounds_toArray, List.set_cons_zero, List.set_cons_succ]
        refine wpAnyH_take (i := 1) (oi := { dst := some 13, op := Go.Op.move (Go.Operand.tmp 1), type := 44, pos := "ref.go:37", after := #[], guard := none }) (v := ?vv2) rfl (by kernel_rfl) (by kernel_rfl) (by kernel_rfl) (fun _ _ _ h => h) (Or.inl ⟨by rfl, ?hy2⟩) (by assumption) ?rr2
        case hy2 => intro w hSw; (try dsimp only at hSw); go_simp; all_goals with_reducible rfl
        try simp only [Act.put, List.setIfInBounds_toArray, List.set_cons_zero, List.set_cons_succ]
        refine wpAnyH_take (i := 2) (oi := { dst := some 14, op := Go.Op.move (Go.Operand.tmp 5), type := 3, pos := "ref.go:37", after := #[], guard := none }) (v := ?vv3) rfl (by kernel_rfl) (by kernel_rfl) (by kernel_rfl) (fun _ _ _ h => h) (Or.inl ⟨by rfl, ?hy3⟩) (by assumption) ?rr3
        case hy3 => intro w hSw; (try dsimp only at hSw); go_simp; all_goals with_reducible rfl
        try simp only [Act.put, List.setIfInBounds_toArray, List.set_cons_zero, List.set_cons_succ]
        refine wpAnyH_take (i := 3) (oi := { dst := some 15, op := Go.Op.indexAddr 44 (Go.Operand.tmp 13) (Go.Operand.tmp 14), type := 0, pos := "ref.go:37", after := #[{ on := 1, ground := Go.Ground.data }, { on := 2, ground := Go.Ground.data }], guard := none }) (v := ?vv4) rfl (by kernel_rfl) (by kernel_rfl) (by kernel_rfl) (fun _ _ _ h => h) (Or.inl ⟨by rfl, ?hy4⟩) (by assumption) ?rr4
        case hy4 => intro w hSw; (try dsimp only at hSw); go_simp; all_goals with_reducible rfl
        try simp only [Act.put, List.setIfInBounds_toArray, List.set_cons_zero, List.set_cons_succ]
        refine wpAnyH_take (i := 4) (oi := { dst := some 16, op := Go.Op.load 3 (Go.Operand.tmp 15), type := 3, pos := "ref.go:37", after := #[{ on := 3, ground := Go.Ground.data }], guard := none }) (v := ?vv5) rfl (by kernel_rfl) (by kernel_rfl) (by kernel_rfl) (fun _ _ _ h => h) (Or.inl ⟨by rfl, ?hy5⟩) (by assumption) ?rr5
        case hy5 => intro w hSw; (try dsimp only at hSw); go_simp; all_goals with_reducible rfl
        try simp only [Act.put, List.setIfInBounds_toArray, List.set_cons_zero, List.set_cons_succ]
        refine wpAnyH_ready (rs := [5]) (by kernel_rfl) (by simp) ?_
        refine AllReadyH.cons (i := 5) (o := { dst := some 17, op := Go.Op.call { callee := Go.Callee.value (Go.Operand.func 33), args := #[Go.Operand.tmp 12, Go.Operand.tmp 16], argTypes := #[24, 3] }, type := 4, pos := "ref.go:37", after := #[{ on := 0, ground := Go.Ground.data }, { on := 4, ground := Go.Ground.data }], guard := none }) rfl (fun K hK => ?_) AllReadyH.nil
        go_simp
        go_at_call 33
        refine (rhas_any h y A c _).mono ?_
        rintro e v1 ⟨rfl, hb1⟩
        rw [hb]
        have HV1 := hid (then_w (Below.refl wr.heap.size wr).drew hb1)
        refine hK.out _ _ ?_ (fun hH1 => ?_)
        · exact ⟨cell_later hb1 hH0.1, cell_later hb1 hH0.2.1, cell_later hb1 hH0.2.2.1, cell_later hb1 hH0.2.2.2⟩
        clear hK K
        try simp only [Act.put, List.setIfInBounds_toArray, List.set_cons_zero, List.set_cons_succ]
        clear hb1
        refine wpAnyH_take (i := 6) (oi := { dst := some 18, op := Go.Op.unOp Go.UnOp.not 4 (Go.Operand.tmp 17), type := 4, pos := "ref.go:37", after := #[{ on := 5, ground := Go.Ground.data }], guard := none }) (v := ?vv6) rfl (by kernel_rfl) (by kernel_rfl) (by kernel_rfl) (fun _ _ _ h => h) (Or.inl ⟨by rfl, ?hy6⟩) (by assumption) ?rr6
        case hy6 => intro w hSw; (try dsimp only at hSw); go_simp; all_goals with_reducible rfl
        try simp only [Act.put, List.setIfInBounds_toArray, List.set_cons_zero, List.set_cons_succ]
        refine wpAnyH_done (by kernel_rfl) ?_ _
        have HB2 := hid (HW.out.trans (HV1.out.mono HW.out.size))
        have HE : Hid (mayR h rs = false) := by
          show mayR h rs = false
          unfold mayR
          have : rs.all (hasB h.objs.length) = false := List.all_eq_false.2 ⟨y, HM.out, by rw [hb]; decide⟩
          rw [this]; rfl
        go_wp2_with fail
        go_ret
        exact ⟨by rw [HE.out]; rfl, HB2.out⟩
      · go_upto_region 4 with fail
        refine wp_region_held_drew (S := (fun w' => w'.cell? ⟨w.heap.size, 0, none⟩ = some (.slice A h.objs.length c) ∧ w'.cell? ⟨w.heap.size, 1, none⟩ = some (.int .i64 h.cap) ∧ w'.cell? ⟨w.heap.size, 2, none⟩ = some (.int .i64 h.last) ∧ w'.cell? ⟨bs, os + k, none⟩ = some (.int .i64 y))) (by kernel_rfl) ?_ (fun hH0 => ?_)
        · exact ⟨x0, x1, x2, c0⟩
        refine wpAnyH_take (i := 0) (oi := { dst := some 12, op := Go.Op.load 24 (Go.Operand.tmp 2), type := 24, pos := "ref.go:37", after := #[], guard := none }) (v := ?vv7) rfl (by kernel_rfl) (by kernel_rfl) (by kernel_rfl) (fun _ _ _ h => h) (Or.inl ⟨by rfl, ?hy7⟩) (by assumption) ?rr7
        case hy7 => intro w hSw; (try dsimp only at hSw); go_simp; all_goals with_reducible rfl
        try simp only [Act.put, List.setIfInBounds_toArray, List.set_cons_zero, List.set_cons_succ]
        refine wpAnyH_take (i := 1) (oi := { dst := some 13, op := Go.Op.move (Go.Operand.tmp 1), type := 44, pos := "ref.go:37", after := #[], guard := none }) (v := ?vv8) rfl (by kernel_rfl) (by kernel_rfl) (by kernel_rfl) (fun _ _ _ h => h) (Or.inl ⟨by rfl, ?hy8⟩) (by assumption) ?rr8
        case hy8 => intro w hSw; (try dsimp only at hSw); go_simp; all_goals with_reducible rfl
        try simp only [Act.put, List.setIfInBounds_toArray, List.set_cons_zero, List.set_cons_succ]
        refine wpAnyH_take (i := 2) (oi := { dst := some 14, op := Go.Op.move (Go.Operand.tmp 5), type := 3, pos := "ref.go:37", after := #[], guard := none }) (v := ?vv9) rfl (by kernel_rfl) (by kernel_rfl) (by kernel_rfl) (fun _ _ _ h => h) (Or.inl ⟨by rfl, ?hy9⟩) (by assumption) ?rr9
        case hy9 => intro w hSw; (try dsimp only at hSw); go_simp; all_goals with_reducible rfl
        try simp only [Act.put, List.setIfInBounds_toArray, List.set_cons_zero, List.set_cons_succ]
        refine wpAnyH_take (i := 3) (oi := { dst := some 15, op := Go.Op.indexAddr 44 (Go.Operand.tmp 13) (Go.Operand.tmp 14), type := 0, pos := "ref.go:37", after := #[{ on := 1, ground := Go.Ground.data }, { on := 2, ground := Go.Ground.data }], guard := none }) (v := ?vv10) rfl (by kernel_rfl) (by kernel_rfl) (by kernel_rfl) (fun _ _ _ h => h) (Or.inl ⟨by rfl, ?hy10⟩) (by assumption) ?rr10
        case hy10 => intro w hSw; (try dsimp only at hSw); go_simp; all_goals with_reducible rfl
        try simp only [Act.put, List.setIfInBounds_toArray, List.set_cons_zero, List.set_cons_succ]
        refine wpAnyH_take (i := 4) (oi := { dst := some 16, op := Go.Op.load 3 (Go.Operand.tmp 15), type := 3, pos := "ref.go:37", after := #[{ on := 3, ground := Go.Ground.data }], guard := none }) (v := ?vv11) rfl (by kernel_rfl) (by kernel_rfl) (by kernel_rfl) (fun _ _ _ h => h) (Or.inl ⟨by rfl, ?hy11⟩) (by assumption) ?rr11
        case hy11 => intro w hSw; (try dsimp only at hSw); go_simp; all_goals with_reducible rfl
        try simp only [Act.put, List.setIfInBounds_toArray, List.set_cons_zero, List.set_cons_succ]
        refine wpAnyH_ready (rs := [5]) (by kernel_rfl) (by simp) ?_
        refine AllReadyH.cons (i := 5) (o := { dst := some 17, op := Go.Op.call { callee := Go.Callee.value (Go.Operand.func 33), args := #[Go.Operand.tmp 12, Go.Operand.tmp 16], argTypes := #[24, 3] }, type := 4, pos := "ref.go:37", after := #[{ on := 0, ground := Go.Ground.data }, { on := 4, ground := Go.Ground.data }], guard := none }) rfl (fun K hK => ?_) AllReadyH.nil
        go_simp
        go_at_call 33
        refine (rhas_any h y A c _).mono ?_
        rintro e v1 ⟨rfl, hb1⟩
        rw [hb]
        have HV1 := hid (then_w (Below.refl wr.heap.size wr).drew hb1)
        refine hK.out _ _ ?_ (fun hH1 => ?_)
        · exact ⟨cell_later hb1 hH0.1, cell_later hb1 hH0.2.1, cell_later hb1 hH0.2.2.1, cell_later hb1 hH0.2.2.2⟩
        clear hK K
        try simp only [Act.put, List.setIfInBounds_toArray, List.set_cons_zero, List.set_cons_succ]
        clear hb1
        refine wpAnyH_take (i := 6) (oi := { dst := some 18, op := Go.Op.unOp Go.UnOp.not 4 (Go.Operand.tmp 17), type := 4, pos := "ref.go:37", after := #[{ on := 5, ground := Go.Ground.data }], guard := none }) (v := ?vv12) rfl (by kernel_rfl) (by kernel_rfl) (by kernel_rfl) (fun _ _ _ h => h) (Or.inl ⟨by rfl, ?hy12⟩) (by assumption) ?rr12
        case hy12 => intro w hSw; (try dsimp only at hSw); go_simp; all_goals with_reducible rfl
        try simp only [Act.put, List.setIfInBounds_toArray, List.set_cons_zero, List.set_cons_succ]
        refine wpAnyH_done (by kernel_rfl) ?_ _
        have HB2 := hid (HW.out.trans (HV1.out.mono HW.out.size))
        have HX2 := hid (HX.out.later HV1.out)
        go_wp2_with fail
        go_roundw
        case rel => exact ⟨k + 1, by omega, by go_num, by rw [HST.out, HALL.out, hb]; rfl, HB2.out, HX2.out⟩
        case measure => simp only [intOf]; omega
    · obtain rfl : k = rs.length := by omega
      have HA2 : Hid (rs.all (hasB h.objs.length) = true) := by show _ = _; rw [← List.take_length (l := rs)]; exact HALL.out
      have HM : Hid (mayR h rs = (mayB h && decide (rs.length ≤ 64))) := by show _ = _; unfold mayR; rw [HA2.out]; rfl
      have HS2 := hid (HS.out.below HW.out)
      cases hm : mayB h
      · go_wp2_with fail
        refine (rmay_any h A c _ HS2.out HF.out).mono ?_
        rintro e w2 ⟨rfl, hb⟩
        have HB2 := hid (HW.out.trans (hb.mono HW.out.size))
        rw [hm]
        clear hb
        go_wp2_with fail
        go_ret
        exact ⟨by rw [HM.out, hm]; rfl, HB2.out⟩
      · have hd : decide (((rs.length : Nat) : Int) ≤ 64) = decide (rs.length ≤ 64) := by rw [decide_eq_decide]; omega
        have HD := hid hd
        clear hd
        go_wp2_with fail
        refine (rmay_any h A c _ HS2.out HF.out).mono ?_
        rintro e w2 ⟨rfl, hb⟩
        have HB2 := hid (HW.out.trans (hb.mono HW.out.size))
        rw [hm]
        clear hb
        go_wp2_with fail
        go_ret
        exact ⟨by rw [HM.out, hm, Bool.true_and, ← HD.out]; rfl, HB2.out⟩
end Go.Proofs.Ythggafdfglojaaa
namespace Go.Proofs.Ythggafdfglojaaa
open Go.RowKit
set_option maxRecDepth 100000
theorem oE_len {n : Nat} {o : Ob} (h : obB n o = true) : (oE o).length ≤ 400 := by
  obtain ⟨-, -, hk, -⟩ := ob_parts h
  unfold oE
  rw [List.length_append, List.length_append, List.length_append, n4_len, n4_len, n4_len]
  rcases kind_parts hk with ⟨e, h1, -, -⟩ | ⟨e, -, h1, -⟩ | ⟨e, -, -⟩
  · rw [if_pos e, l4_len]; omega
  · rw [if_neg (by omega), if_pos e, List.length_append, n4_len, Array.length_toList]
    have : o.text.data.size = o.text.size := rfl
    omega
  · rw [if_neg (by omega), if_neg (by omega), List.length_append, n4_len, n4_len]; omega
theorem flatO_len {n : Nat} (os : List Ob) (h : ∀ o ∈ os, obB n o = true) : (os.flatMap oE).length ≤ 400 * os.length := by
  induction os with
  | nil => simp
  | cons o os ih =>
    rw [List.flatMap_cons, List.length_append, List.length_cons]
    have := oE_len (h o (by simp))
    have := ih fun p hp => h p (by simp [hp])
    omega
theorem flatO_step (os : List Ob) (k : Nat) (h : k < os.length) : (os.take (k + 1)).flatMap oE = (os.take k).flatMap oE ++ oE os[k] := by
  rw [List.take_succ_eq_append_getElem h, List.flatMap_append]; simp
theorem su_lt (l : List UInt8) : su8 l < 4294967296 := crM_lt (fun c hc => by obtain ⟨b, _, rfl⟩ := List.mem_map.1 hc; exact b.toNat_lt)
theorem moI_str (l : List UInt8) : moI 0 (str l) = (su8 l : Int) := by
  rw [show (0 : Int) = ((0 : Nat) : Int) from rfl, moI_yes (by decide), byL_str]; rfl
theorem boI_su (l : List UInt8) : boI (su8 l : Int) = str (n4 (su8 l)) := by
  have h := su_lt l
  rw [boI_yes h, ← n4_str]
  congr 1
  omega
set_option maxHeartbeats 3000000 in
theorem renc_any8 (h : Hp) (rs : List Int) (A R : Option Addr) (c d : Nat) (w : World) (hs : ObsR w A h.objs) (fit : h.Fit) (hr : IntsR w R rs) (hl : rs.length ≤ 9223372036854775807) :
    Calls Try.prog 40 #[.agg #[.slice A h.objs.length c, .int .i64 h.cap, .int .i64 h.last], .slice R rs.length d] w fun e w' => e = .returned (.string (str (encE h rs))) ∧ Below w.heap.size w w' := by
  obtain ⟨w0, hw0⟩ : ∃ w0, w0 = w.alloc (.cells #[Value.slice A h.objs.length c, Value.int .i64 h.cap, Value.int .i64 h.last] 24) := ⟨_, rfl⟩
  have HB0 : Hid (Below w.heap.size w w0) := by show Below _ _ _; rw [hw0]; exact below_alloc _ _
  have HX0 : Hid (Lies w0 w.heap.size 24 #[Value.slice A h.objs.length c, Value.int .i64 h.cap, Value.int .i64 h.last]) := by
    show Lies _ _ _ _
    rw [hw0]; exact Lies.new _ _ _
  have HS := hid hs
  have HF := hid fit
  have HR := hid hr
  have HR0 := hid (hr.below HB0.out)
  have HS0 := hid (hs.below HB0.out)
  clear hs fit hr
  go_enter Try.func40, Try.ntmps40
  go_upto_region 1 with fail
  rw [← hw0]
  clear hw0
  have x0 := HX0.out.cell 0
  have x1 := HX0.out.cell 1
  have x2 := HX0.out.cell 2
  simp only [List.getElem?_toArray, List.getElem?_cons_zero, List.getElem?_cons_succ] at x0 x1 x2
  go_wp2_with fail
  refine (rmay_any8 h rs A R c d _ HS0.out HF.out HR0.out hl).mono ?_
  rintro e w1 ⟨rfl, hb⟩
  have HB1 := hid (HB0.out.trans (hb.mono HB0.out.size))
  have HX1 := hid (HX0.out.later hb)
  clear hb x0 x1 x2
  have x0 := HX1.out.cell 0
  have x1 := HX1.out.cell 1
  have x2 := HX1.out.cell 2
  simp only [List.getElem?_toArray, List.getElem?_cons_zero, List.getElem?_cons_succ] at x0 x1 x2
  cases hm : mayR h rs
  · have HE : Hid (encE h rs = []) := enc_no (by rw [hm]; decide)
    go_wp2_with fail
    go_ret
    exact ⟨by rw [HE.out]; rfl, HB1.out⟩
  · obtain ⟨-, -, hn, ho, -, hrn⟩ := may_parts hm
    have HOB := hid ho
    obtain ⟨a, ha⟩ : ∃ x, x = n4 h.cap := ⟨_, rfl⟩
    obtain ⟨b, hb⟩ : ∃ x, x = n4 h.last := ⟨_, rfl⟩
    obtain ⟨f, hf⟩ : ∃ x, x = n4 h.objs.length := ⟨_, rfl⟩
    obtain ⟨q1, hq1⟩ : ∃ x, x = [65, 78, 49] ++ a := ⟨_, rfl⟩
    obtain ⟨q2, hq2⟩ : ∃ x, x = q1 ++ b := ⟨_, rfl⟩
    obtain ⟨q3, hq3⟩ : ∃ x, x = q2 ++ f := ⟨_, rfl⟩
    have HA := hid ha
    have HBB := hid hb
    have HFF := hid hf
    have HQ : Hid (q3 = [65, 78, 49] ++ (n4 h.cap ++ (n4 h.last ++ n4 h.objs.length))) := by show _ = _; rw [hq3, hq2, hq1, ha, hb, hf]; simp only [List.append_assoc]
    have z1 : (str a).size = 4 := by rw [str_size, ha, n4_len]
    have z2 : (str b).size = 4 := by rw [str_size, hb, n4_len]
    have z3 : (str f).size = 4 := by rw [str_size, hf, n4_len]
    have z4 : (str q1).size = 7 := by rw [str_size, hq1, List.length_append, ha, n4_len]; rfl
    have z5 : (str q2).size = 11 := by rw [str_size, hq2, hq1, List.length_append, List.length_append, ha, hb, n4_len, n4_len]; rfl
    have z6 : q3.length = 15 := by rw [hq3, hq2, hq1, List.length_append, List.length_append, List.length_append, ha, hb, hf, n4_len, n4_len, n4_len]; rfl
    have Z6 := hid z6
    have p0 : (⟨#[65, 78, 49]⟩ : ByteArray) ++ str a = str q1 := by rw [hq1, ← str_append]; rfl
    have p1 : str q1 ++ str b = str q2 := by rw [str_append, hq2]
    have p2 : str q2 ++ str f = str q3 := by rw [str_append, hq3]
    clear ho ha hb hf hq1 hq2 hq3 z6
    go_upto_region 3 with fail
    refine wp_region_held_drew (S := (fun w' => w'.cell? ⟨w.heap.size, 0, none⟩ = some (.slice A h.objs.length c) ∧ w'.cell? ⟨w.heap.size, 1, none⟩ = some (.int .i64 h.cap) ∧ w'.cell? ⟨w.heap.size, 2, none⟩ = some (.int .i64 h.last))) (by kernel_rfl) ?_ (fun hH0 => ?_)
    · exact ⟨x0, x1, x2⟩
    refine wpAnyH_take (i := 0) (oi := { dst := some 11, op := Go.Op.fieldAddr 24 (Go.Operand.tmp 2) 1, type := 0, pos := "ref.go:49", after := #[], guard := none }) (v := ?vv1) rfl (by kernel_rfl) (by kernel_rfl) (by kernel_rfl) (fun _ _ _ h => h) (Or.inl ⟨by rfl, ?hy1⟩) (by assumption) ?rr1
    case hy1 => intro w hSw; (try dsimp only at hSw); go_simp; all_goals with_reducible rfl
    try simp only [Act.put, List.setIfInBounds_toArray, List.set_cons_zero, List.set_cons_succ]
    refine wpAnyH_take (i := 1) (oi := { dst := some 12, op := Go.Op.load 3 (Go.Operand.tmp 11), type := 3, pos := "ref.go:49", after := #[{ on := 0, ground := Go.Ground.data }], guard := none }) (v := ?vv2) rfl (by kernel_rfl) (by kernel_rfl) (by kernel_rfl) (fun _ _ _ h => h) (Or.inl ⟨by rfl, ?hy2⟩) (by assumption) ?rr2
    case hy2 => intro w hSw; (try dsimp only at hSw); go_simp; all_goals with_reducible rfl
    try simp only [Act.put, List.setIfInBounds_toArray, List.set_cons_zero, List.set_cons_succ]
    refine wpAnyH_take (i := 4) (oi := { dst := some 15, op := Go.Op.fieldAddr 24 (Go.Operand.tmp 2) 2, type := 0, pos := "ref.go:49", after := #[], guard := none }) (v := ?vv3) rfl (by kernel_rfl) (by kernel_rfl) (by kernel_rfl) (fun _ _ _ h => h) (Or.inl ⟨by rfl, ?hy3⟩) (by assumption) ?rr3
    case hy3 => intro w hSw; (try dsimp only at hSw); go_simp; all_goals with_reducible rfl
    try simp only [Act.put, List.setIfInBounds_toArray, List.set_cons_zero, List.set_cons_succ]
    refine wpAnyH_take (i := 5) (oi := { dst := some 16, op := Go.Op.load 3 (Go.Operand.tmp 15), type := 3, pos := "ref.go:49", after := #[{ on := 4, ground := Go.Ground.data }], guard := none }) (v := ?vv4) rfl (by kernel_rfl) (by kernel_rfl) (by kernel_rfl) (fun _ _ _ h => h) (Or.inl ⟨by rfl, ?hy4⟩) (by assumption) ?rr4
    case hy4 => intro w hSw; (try dsimp only at hSw); go_simp; all_goals with_reducible rfl
    try simp only [Act.put, List.setIfInBounds_toArray, List.set_cons_zero, List.set_cons_succ]
    refine wpAnyH_take (i := 8) (oi := { dst := some 19, op := Go.Op.fieldAddr 24 (Go.Operand.tmp 2) 0, type := 0, pos := "ref.go:49", after := #[], guard := none }) (v := ?vv5) rfl (by kernel_rfl) (by kernel_rfl) (by kernel_rfl) (fun _ _ _ h => h) (Or.inl ⟨by rfl, ?hy5⟩) (by assumption) ?rr5
    case hy5 => intro w hSw; (try dsimp only at hSw); go_simp; all_goals with_reducible rfl
    try simp only [Act.put, List.setIfInBounds_toArray, List.set_cons_zero, List.set_cons_succ]
    refine wpAnyH_take (i := 9) (oi := { dst := some 20, op := Go.Op.load 22 (Go.Operand.tmp 19), type := 22, pos := "ref.go:49", after := #[{ on := 8, ground := Go.Ground.data }], guard := none }) (v := ?vv6) rfl (by kernel_rfl) (by kernel_rfl) (by kernel_rfl) (fun _ _ _ h => h) (Or.inl ⟨by rfl, ?hy6⟩) (by assumption) ?rr6
    case hy6 => intro w hSw; (try dsimp only at hSw); go_simp; all_goals with_reducible rfl
    try simp only [Act.put, List.setIfInBounds_toArray, List.set_cons_zero, List.set_cons_succ]
    refine wpAnyH_take (i := 10) (oi := { dst := some 21, op := Go.Op.call { callee := Go.Callee.builtin Go.Builtin.len, args := #[Go.Operand.tmp 20], argTypes := #[22] }, type := 3, pos := "ref.go:49", after := #[{ on := 9, ground := Go.Ground.data }], guard := none }) (v := ?vv7) rfl (by kernel_rfl) (by kernel_rfl) (by kernel_rfl) (fun _ _ _ h => h) (Or.inl ⟨by rfl, ?hy7⟩) (by assumption) ?rr7
    case hy7 => intro w hSw; (try dsimp only at hSw); go_simp; all_goals with_reducible rfl
    try simp only [Act.put, List.setIfInBounds_toArray, List.set_cons_zero, List.set_cons_succ]
    refine wpAnyH_ready (rs := [2]) (by kernel_rfl) (by simp) ?_
    refine AllReadyH.cons (i := 2) (o := { dst := some 13, op := Go.Op.call { callee := Go.Callee.value (Go.Operand.func 79), args := #[Go.Operand.tmp 12], argTypes := #[3] }, type := 9, pos := "ref.go:49", after := #[{ on := 1, ground := Go.Ground.data }], guard := none }) rfl (fun K hK => ?_) AllReadyH.nil
    go_simp
    go_at_call 79
    refine (rnum_any8 (h.cap) _).mono ?_
    rintro e v1 ⟨rfl, hb⟩
    rw [← HA.out]
    have HV1 := hid (then_w (Below.refl w1.heap.size w1).drew hb)
    refine hK.out _ _ ?_ (fun hH1 => ?_)
    · exact ⟨cell_later hb hH0.1, cell_later hb hH0.2.1, cell_later hb hH0.2.2⟩
    clear hK K
    try simp only [Act.put, List.setIfInBounds_toArray, List.set_cons_zero, List.set_cons_succ]
    clear hb
    refine wpAnyH_take (i := 3) (oi := { dst := some 14, op := Go.Op.binOp Go.BinOp.add 9 (Go.Operand.const (Go.Value.string { data := #[65, 78, 49] })) (Go.Operand.tmp 13) 9, type := 9, pos := "ref.go:49", after := #[{ on := 2, ground := Go.Ground.data }], guard := none }) (v := ?vv8) rfl (by kernel_rfl) (by kernel_rfl) (by kernel_rfl) (fun _ _ _ h => h) (Or.inl ⟨by rfl, ?hy8⟩) (by assumption) ?rr8
    case hy8 => intro w hSw; (try dsimp only at hSw); go_simp; all_goals with_reducible rfl
    try simp only [Act.put, List.setIfInBounds_toArray, List.set_cons_zero, List.set_cons_succ]
    refine wpAnyH_ready (rs := [6]) (by kernel_rfl) (by simp) ?_
    refine AllReadyH.cons (i := 6) (o := { dst := some 17, op := Go.Op.call { callee := Go.Callee.value (Go.Operand.func 79), args := #[Go.Operand.tmp 16], argTypes := #[3] }, type := 9, pos := "ref.go:49", after := #[{ on := 5, ground := Go.Ground.data }, { on := 2, ground := Go.Ground.chain }], guard := none }) rfl (fun K hK => ?_) AllReadyH.nil
    go_simp
    go_at_call 79
    refine (rnum_any8 (h.last) _).mono ?_
    rintro e v2 ⟨rfl, hb⟩
    rw [← HBB.out]
    have HV2 := hid (then_w HV1.out hb)
    refine hK.out _ _ ?_ (fun hH2 => ?_)
    · exact ⟨cell_later hb hH1.1, cell_later hb hH1.2.1, cell_later hb hH1.2.2⟩
    clear hK K
    try simp only [Act.put, List.setIfInBounds_toArray, List.set_cons_zero, List.set_cons_succ]
    clear hb
    refine wpAnyH_take (i := 7) (oi := { dst := some 18, op := Go.Op.binOp Go.BinOp.add 9 (Go.Operand.tmp 14) (Go.Operand.tmp 17) 9, type := 9, pos := "ref.go:49", after := #[{ on := 3, ground := Go.Ground.data }, { on := 6, ground := Go.Ground.data }], guard := none }) (v := ?vv9) rfl (by kernel_rfl) (by kernel_rfl) (by kernel_rfl) (fun _ _ _ h => h) (Or.inl ⟨by rfl, ?hy9⟩) (by assumption) ?rr9
    case hy9 => intro w hSw; (try dsimp only at hSw); go_simp; all_goals with_reducible rfl
    try simp only [Act.put, List.setIfInBounds_toArray, List.set_cons_zero, List.set_cons_succ]
    refine wpAnyH_ready (rs := [11]) (by kernel_rfl) (by simp) ?_
    refine AllReadyH.cons (i := 11) (o := { dst := some 22, op := Go.Op.call { callee := Go.Callee.value (Go.Operand.func 79), args := #[Go.Operand.tmp 21], argTypes := #[3] }, type := 9, pos := "ref.go:49", after := #[{ on := 10, ground := Go.Ground.data }, { on := 6, ground := Go.Ground.chain }], guard := none }) rfl (fun K hK => ?_) AllReadyH.nil
    go_simp
    go_at_call 79
    refine (rnum_any8 (h.objs.length) _).mono ?_
    rintro e v3 ⟨rfl, hb⟩
    rw [← HFF.out]
    have HV3 := hid (then_w HV2.out hb)
    refine hK.out _ _ ?_ (fun hH3 => ?_)
    · exact ⟨cell_later hb hH2.1, cell_later hb hH2.2.1, cell_later hb hH2.2.2⟩
    clear hK K
    try simp only [Act.put, List.setIfInBounds_toArray, List.set_cons_zero, List.set_cons_succ]
    clear hb
    refine wpAnyH_take (i := 12) (oi := { dst := some 23, op := Go.Op.binOp Go.BinOp.add 9 (Go.Operand.tmp 18) (Go.Operand.tmp 22) 9, type := 9, pos := "ref.go:49", after := #[{ on := 7, ground := Go.Ground.data }, { on := 11, ground := Go.Ground.data }], guard := none }) (v := ?vv10) rfl (by kernel_rfl) (by kernel_rfl) (by kernel_rfl) (fun _ _ _ h => h) (Or.inl ⟨by rfl, ?hy10⟩) (by assumption) ?rr10
    case hy10 => intro w hSw; (try dsimp only at hSw); go_simp; all_goals with_reducible rfl
    try simp only [Act.put, List.setIfInBounds_toArray, List.set_cons_zero, List.set_cons_succ]
    refine wpAnyH_take (i := 13) (oi := { dst := some 5, op := Go.Op.assign (Go.Operand.tmp 23), type := 9, pos := "ref.go:49", after := #[{ on := 12, ground := Go.Ground.data }, { on := 11, ground := Go.Ground.chain }, { on := 0, ground := Go.Ground.phase }, { on := 1, ground := Go.Ground.phase }, { on := 2, ground := Go.Ground.phase }, { on := 3, ground := Go.Ground.phase }, { on := 4, ground := Go.Ground.phase }, { on := 5, ground := Go.Ground.phase }, { on := 6, ground := Go.Ground.phase }, { on := 7, ground := Go.Ground.phase }, { on := 8, ground := Go.Ground.phase }, { on := 9, ground := Go.Ground.phase }, { on := 10, ground := Go.Ground.phase }, { on := 11, ground := Go.Ground.phase }, { on := 12, ground := Go.Ground.phase }], guard := none }) (v := ?vv11) rfl (by kernel_rfl) (by kernel_rfl) (by kernel_rfl) (fun _ _ _ h => h) (Or.inl ⟨by rfl, ?hy11⟩) (by assumption) ?rr11
    case hy11 => intro w hSw; (try dsimp only at hSw); go_simp; all_goals with_reducible rfl
    try simp only [Act.put, List.setIfInBounds_toArray, List.set_cons_zero, List.set_cons_succ]
    refine wpAnyH_done (by kernel_rfl) ?_ _
    obtain ⟨w2, hw2⟩ : ∃ u, u = v3 := ⟨_, rfl⟩
    have hb := HV3.out
    rw [← hw2] at hb ⊢
    have HB2 := hid (HB1.out.trans (hb.mono HB1.out.size))
    have HX2 := hid (HX1.out.later hb)
    clear hb hw2 x0 x1 x2 z1 z2 z3 z4 z5 p0 p1 p2
    go_wp2_with fail
    go_loopw [6, 5] (fun i s wr => ∃ (k : Nat) (x : List UInt8), k ≤ h.objs.length ∧ i = .int .i64 k ∧ s = .string (str x) ∧ Hid (x = q3 ++ (h.objs.take k).flatMap oE) ∧ Below w.heap.size w wr ∧ Lies wr w.heap.size 24 #[Value.slice A h.objs.length c, Value.int .i64 h.cap, Value.int .i64 h.last]) (fun i _ _ => h.objs.length - (intOf i).toNat)
    case atStart => exact ⟨0, q3, Nat.zero_le _, rfl, rfl, hid (by simp), HB2.out, HX2.out⟩
    case round =>
      obtain ⟨k, x, hk, rfl, rfl, HXX, hbw, hx⟩ := hrel
      have HW := hid hbw
      have HX := hid hx
      have x0 := hx.cell 0
      simp only [List.getElem?_toArray, List.getElem?_cons_zero] at x0
      have hxl : x.length ≤ 15 + 400 * k := by
        have := flatO_len (n := h.objs.length) (h.objs.take k) (fun o ho => HOB.out o (List.mem_of_mem_take ho))
        rw [HXX.out, List.length_append, Z6.out]
        rw [List.length_take] at this
        omega
      have hs1 := str_size x
      clear hbw hx
      by_cases hlt : k < h.objs.length
      · obtain ⟨bs, os, rfl, hbs, hcs⟩ := HS.out (by omega)
        obtain ⟨S, e, hob, hin, -⟩ := hcs k _ (List.getElem?_eq_getElem hlt)
        have HIN := hid (hin.below HW.out)
        obtain ⟨c0, c1, c2, c3, c4, c5⟩ := hob.below hbs HW.out
        have HST := hid (flatO_step h.objs k hlt)
        have hobk := HOB.out _ (List.getElem_mem hlt)
        obtain ⟨o, hoo⟩ : ∃ o, o = h.objs[k]'hlt := ⟨_, rfl⟩
        rw [← hoo] at c0 c1 c2 c3 c4 c5 HST HIN hobk
        have hol := oE_len hobk
        obtain ⟨-, -, hkk, -⟩ := ob_parts hobk
        have hsl : o.slots.length ≤ 100000 ∧ o.text.size ≤ 100000 := by
          rcases kind_parts hkk with ⟨-, h1, h2, -⟩ | ⟨-, h1, h2, -⟩ | ⟨-, h1, h2⟩
          · rw [h2]; exact ⟨by omega, by decide⟩
          · rw [h1]; exact ⟨by simp, by omega⟩
          · rw [h1, h2]; exact ⟨by simp, by decide⟩
        have HSL := hid hsl
        obtain ⟨y, hy⟩ : ∃ y, y = oE o := ⟨_, rfl⟩
        have HYY := hid hy
        rw [← hy] at hol HST
        have hs2 := str_size y
        have hap := str_append x y
        have n1 : ¬ 9223372036854775807 < x.length + y.length := by omega
        clear hcs hob hin hoo hobk hkk hsl hy
        go_wp2_with fail
        refine (robject_any8 o S e _ HIN.out HSL.out.1 HSL.out.2).mono ?_
        rintro e w3 ⟨rfl, hb⟩
        rw [← HYY.out]
        have HB3 := hid (HW.out.trans (hb.mono HW.out.size))
        have HX3 := hid (HX.out.later hb)
        clear hb
        go_wp2_with fail
        go_roundw
        case rel => exact ⟨k + 1, x ++ y, by omega, by go_num, rfl, hid (by rw [HXX.out, HST.out, List.append_assoc]), HB3.out, HX3.out⟩
        case measure => simp only [intOf]; omega
      · obtain rfl : k = h.objs.length := by omega
        obtain ⟨y, hy⟩ : ∃ y, y = l4 rs := ⟨_, rfl⟩
        have HYY := hid hy
        have hyl : y.length = 4 + 4 * rs.length := by rw [hy, l4_len]
        have hs2 := str_size y
        have hap := str_append x y
        have n1 : ¬ 9223372036854775807 < x.length + (4 + 4 * rs.length) := by omega
        have HRW := hid (HR.out.below HW.out)
        have HBD : Hid (x ++ y = bodyE h rs) := by
          show _ = _
          rw [HXX.out, List.take_length, HQ.out, hy]
          unfold bodyE
          simp only [List.append_assoc]
        obtain ⟨z, hz⟩ : ∃ z, z = x ++ y := ⟨_, rfl⟩
        rw [← hz] at hap HBD
        have hzl : z.length ≤ 200000 := by rw [hz, List.length_append, hyl]; omega
        have hs3 := str_size z
        have HM1 := hid (moI_str z)
        have HM2 := hid (boI_su z)
        obtain ⟨m, hm2⟩ : ∃ m, m = (su8 z : Int) := ⟨_, rfl⟩
        rw [← hm2] at HM1 HM2
        have hs4 := (str_size (n4 m)).trans (n4_len m)
        have hap2 := str_append z (n4 m)
        have n2 : ¬ 9223372036854775807 < z.length + 4 := by omega
        have HE : Hid (encE h rs = z ++ n4 m) := by show _ = _; rw [enc_yes hm, ← HBD.out, ← hm2]
        have hsz : (str z).size ≤ 9223372036854775807 := by omega
        have HSZ := hid hsz
        clear hy hz hm2 hsz
        go_wp2_with fail
        refine (rlist_any8 rs R d _ HRW.out (by omega)).mono ?_
        rintro e w3 ⟨rfl, hb⟩
        rw [← HYY.out]
        have HB3 := hid (HW.out.trans (hb.mono HW.out.size))
        clear hb
        go_wp2_with fail
        refine (rof_any7 (str z) HSZ.out _).mono ?_
        rintro e w4 ⟨rfl, rfl⟩
        rw [HM1.out]
        go_wp2_with fail
        refine (rbytes_any m _).mono ?_
        rintro e w5 ⟨rfl, hb⟩
        rw [HM2.out]
        have HB5 := hid (HB3.out.trans (hb.mono HB3.out.size))
        clear hb
        go_wp2_with fail
        go_ret
        exact ⟨by rw [HE.out]; rfl, HB5.out⟩
end Go.Proofs.Ythggafdfglojaaa
