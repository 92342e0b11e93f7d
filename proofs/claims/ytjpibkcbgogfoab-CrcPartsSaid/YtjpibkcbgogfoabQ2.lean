/- CrcParts walked: whatever three texts, it answers true. -/
import Derived.Test.YtjpibkcbgogfoabQZ
import Derived.Laws.AppendOwnNone
import Derived.Deep.AppendLies
import Derived.Maps.AppendAt
namespace Go.Proofs.Ytjpibkcbgogfoab
open Go.RowKit
set_option maxRecDepth 100000
theorem wp_append_run7 {P : Program} {w : World} {o : Oper} {a : Act} {K : Act → World → Prop} {Q : Exit → Act → World → Prop} (s x : Operand) (t : TypeId)
    (ho : o.op = .call { callee := .builtin .append, args := #[s, x], argTypes := #[t, t] }) (v1 : Value) (w1 : World) (hrun : (Builtin.append_ #[t, t] o.type #[a.eval s, a.eval x]).run P w = .ok v1 w1)
    (h : K (a.put o.dst v1) w1) : Oper.wp P o a w K Q := by
  unfold Oper.wp
  simp [execOp, ho, resolve, invoke, builtin, hrun, Result.andThen]
  exact h
def b8 (c : Nat) : Value := .int .u8 (c : Int)
theorem byte_info : (Try.prog.info? 5).map (fun i => (i.zero, i.size, i.bytes)) = some (some (.int .u8 0), 1, 1) := by kernel_rfl
theorem run_append_byte {w w0 : World} {v : Value} {n g y : Nat} {xs : List Nat} (h : w.ownsRow w0.heap.size 5 1 v n (xs.map b8)) (hb : Below w0.heap.size w0 w) (hg : Lies w g 5 #[.int .u8 (y : Int)]) (hn : n ≤ 1000000) :
    ∃ A' c' w', (Builtin.append_ #[27, 27] 27 #[v, .slice (some ⟨g, 0, none⟩) 1 1]).run Try.prog w = .ok (.slice A' (n + 1) c') w' ∧ w'.ownsRow w0.heap.size 5 1 (.slice A' (n + 1) c') (n + 1) ((xs ++ [y]).map b8) ∧ Below w0.heap.size w0 w' := by
  obtain ⟨i0, hi0, hz0, hz1, hz2⟩ := info_parts byte_info
  obtain ⟨v', w', h1, h2, h3, -, h5⟩ := run_append_own_at (P := Try.prog) (w := w) w0.heap.size 27 27 5 i0 (.int .u8 0) 1 1 Try.underlying27 hi0 hz0 hz1 hz2 rfl (by decide) v _ _ h ⟨g, 0, none⟩ 1 1 [.int .u8 (y : Int)] rfl (by
    intro j u hu
    have := hg.cell j
    rw [Addr.add_lit, Nat.zero_add, this]
    simpa using hu) (by
    intro u hu
    obtain rfl : u = .int .u8 (y : Int) := by simpa using hu
    rfl) (by unfold maxLen; omega) (by omega) hb.size
  obtain ⟨A', c', rfl⟩ := own_form h2
  exact ⟨A', c', w', h1, by simpa [b8] using h2, hb.grown h3 hb.size (fun k hk => (h.lt k hk).1)⟩
theorem conv_row {w : World} {base n c : Nat} {A : Option Addr} {xs : List Nat} (h : w.ownsRow base 5 1 (.slice A n c) n (xs.map b8)) (e : xs.length = n) (hx : ∀ x ∈ xs, x < 256) :
    (convert 27 9 (.slice A n c)).run Try.prog w = .ok (.string ⟨(xs.map UInt8.ofNat).toArray⟩) w := by
  subst e
  cases A with
  | none =>
    have hn : xs.length = 0 := by
      rcases h.2 with ⟨h', hn⟩ | ⟨g, cap, cur, h', _⟩
      · injection h'
      · cases h'
    have hx0 : xs = [] := List.eq_nil_of_length_eq_zero hn
    subst hx0
    show (convert 27 9 (.slice none 0 c)).run Try.prog w = _
    rw [run_convert_bytes_string w 27 9 5 none 0 c Try.underlying27 Try.underlying5 Try.underlying9]
    rfl
  | some a =>
    by_cases hn : 0 < xs.length
    · obtain ⟨g, cap, hv, hb, hlt⟩ := h.form hn
      simp only [Value.slice.injEq, true_and, Option.some.injEq] at hv
      obtain ⟨rfl, rfl⟩ := hv
      have := run_convert_bytes_back (P := Try.prog) w 27 9 5 ⟨g, 0, none⟩ c (xs.map UInt8.ofNat) Try.underlying27 Try.underlying5 Try.underlying9 (fun j hj => by
        have hj' : j < xs.length := by simpa using hj
        rw [Addr.add_lit, Nat.zero_add, h.cellAt j (by omega), List.getElem?_map, List.getElem?_eq_getElem hj']
        have h1 := hx _ (List.getElem_mem hj')
        have h2 : (UInt8.ofNat xs[j]).toNat = xs[j] := by rw [UInt8.toNat_ofNat']; omega
        simp [b8, h2])
      simpa using this
    · have hx0 : xs = [] := List.eq_nil_of_length_eq_zero (by omega)
      subst hx0
      have := run_convert_bytes_back (P := Try.prog) w 27 9 5 a c [] Try.underlying27 Try.underlying5 Try.underlying9 (fun j hj => by simp at hj)
      simpa using this
/-- what three texts' first bytes come to by exclusive or -/
def x3 (s t u : ByteArray) (k : Nat) : List Nat := (List.range k).map fun j => (byL s).getD j 0 ^^^ (byL t).getD j 0 ^^^ (byL u).getD j 0
theorem x3_len (s t u : ByteArray) (k : Nat) : (x3 s t u k).length = k := by simp [x3]
theorem byL_getD (s : ByteArray) (k : Nat) (h : k < s.size) : (byL s).getD k 0 = (s[k]).toNat := by
  rw [List.getD_eq_getElem?_getD, byL_at s k h]; rfl
theorem x3_step (s t u : ByteArray) (k : Nat) (h1 : k < s.size) (h2 : k < t.size) (h3 : k < u.size) : x3 s t u (k + 1) = x3 s t u k ++ [(s[k]).toNat ^^^ (t[k]).toNat ^^^ (u[k]).toNat] := by
  unfold x3
  rw [List.range_succ, List.map_append, ← byL_getD s k h1, ← byL_getD t k h2, ← byL_getD u k h3]; rfl
theorem getD_lt8 {l : List Nat} (h : ∀ c ∈ l, c < 256) (j : Nat) : l.getD j 0 < 256 := by
  rw [List.getD_eq_getElem?_getD]
  cases e : l[j]? with
  | none => decide
  | some x => exact h x (List.mem_of_getElem? e)
theorem x3_lt (s t u : ByteArray) (k : Nat) : ∀ c ∈ x3 s t u k, c < 256 := by
  intro c hc
  obtain ⟨j, _, rfl⟩ := List.mem_map.1 hc
  exact Nat.xor_lt_two_pow (n := 8) (Nat.xor_lt_two_pow (getD_lt8 (byL_lt s) j) (getD_lt8 (byL_lt t) j)) (getD_lt8 (byL_lt u) j)
theorem xor_six (a b c x y z : Nat) : (a ^^^ x) ^^^ (b ^^^ y) ^^^ (c ^^^ z) = (a ^^^ b ^^^ c) ^^^ (x ^^^ y ^^^ z) := by
  rw [xor4 a x b y, xor4 (a ^^^ b) (x ^^^ y) c z]
theorem cu_x3 (s t u : ByteArray) (a b c k : Nat) (h1 : k ≤ s.size) (h2 : k ≤ t.size) (h3 : k ≤ u.size) :
    cu a ((byL s).take k) ^^^ cu b ((byL t).take k) ^^^ cu c ((byL u).take k) = cu (a ^^^ b ^^^ c) (x3 s t u k) := by
  induction k with
  | zero => rfl
  | succ k ih =>
    rw [byL_step s k (by omega), byL_step t k (by omega), byL_step u k (by omega), x3_step s t u k (by omega) (by omega) (by omega), cu_one, cu_one, cu_one, cu_one,
      ← ih (by omega) (by omega) (by omega), ← gk_xor, ← gk_xor, xor_six]
theorem byL_mk {l : List Nat} (h : ∀ c ∈ l, c < 256) : byL ⟨(l.map UInt8.ofNat).toArray⟩ = l := by
  unfold byL
  simp only [List.map_map]
  have : ∀ c ∈ l, (UInt8.toNat ∘ UInt8.ofNat) c = c := fun c hc => by
    show (UInt8.ofNat c).toNat = c
    rw [UInt8.toNat_ofNat']; have := h c hc; omega
  rw [List.map_congr_left this]; simp
theorem byL_ahead (s : ByteArray) (k : Nat) : byL (s.extract 0 k) = (byL s).take k := by rw [byL_extract, List.drop_zero]
theorem crM0 {l : List Nat} (h : ∀ c ∈ l, c < 256) : crM 0 l = mx ^^^ cu mx l := by
  unfold crM
  rw [Nat.sub_zero, turn_sub (cu_lt mx_lt h)]
theorem three_sums (s t u : ByteArray) (k : Nat) (h1 : k ≤ s.size) (h2 : k ≤ t.size) (h3 : k ≤ u.size) :
    crM 0 (byL (s.extract 0 k)) ^^^ crM 0 (byL (t.extract 0 k)) ^^^ crM 0 (byL (u.extract 0 k)) = crM 0 (byL ⟨((x3 s t u k).map UInt8.ofNat).toArray⟩) := by
  rw [byL_mk (x3_lt s t u k), byL_ahead, byL_ahead, byL_ahead, crM0 (take_lt (byL_lt s) k), crM0 (take_lt (byL_lt t) k), crM0 (take_lt (byL_lt u) k), crM0 (x3_lt s t u k), xor_six, cu_x3 s t u mx mx mx k h1 h2 h3,
    Nat.xor_self, Nat.zero_xor]
set_option maxHeartbeats 3000000 in
theorem parts7_any (s t u : ByteArray) (w : World) (hl0 : s.size ≤ 9223372036854775807) (hl1 : t.size ≤ 9223372036854775807) (hl2 : u.size ≤ 9223372036854775807) : Calls Try.prog 4 #[.string s, .string t, .string u] w fun e w' => e = .returned (.bool true) ∧ Below w.heap.size w w' := by
  have HB0 := hid (Below.refl w.heap.size w)
  by_cases q0 : (1000 : Int) < s.size
  · go_enter Try.func4, Try.ntmps4
    go_wp2_with fail
    refine (fixed7_any _).mono ?_
    rintro e w1 ⟨rfl, hb⟩
    have HB1 := hid (HB0.out.trans (hb.mono HB0.out.size))
    clear hb
    go_wp2_with fail
    refine (fixed7_any _).mono ?_
    rintro e w2 ⟨rfl, hb⟩
    have HB2 := hid (HB1.out.trans (hb.mono HB1.out.size))
    clear hb
    go_wp2_with fail
    go_ret
    exact ⟨rfl, HB2.out⟩
  · by_cases q1 : (1000 : Int) < t.size
    · go_enter Try.func4, Try.ntmps4
      go_wp2_with fail
      refine (fixed7_any _).mono ?_
      rintro e w1 ⟨rfl, hb⟩
      have HB1 := hid (HB0.out.trans (hb.mono HB0.out.size))
      clear hb
      go_wp2_with fail
      refine (fixed7_any _).mono ?_
      rintro e w2 ⟨rfl, hb⟩
      have HB2 := hid (HB1.out.trans (hb.mono HB1.out.size))
      clear hb
      go_wp2_with fail
      go_ret
      exact ⟨rfl, HB2.out⟩
    · by_cases q2 : (1000 : Int) < u.size
      · go_enter Try.func4, Try.ntmps4
        go_wp2_with fail
        refine (fixed7_any _).mono ?_
        rintro e w1 ⟨rfl, hb⟩
        have HB1 := hid (HB0.out.trans (hb.mono HB0.out.size))
        clear hb
        go_wp2_with fail
        refine (fixed7_any _).mono ?_
        rintro e w2 ⟨rfl, hb⟩
        have HB2 := hid (HB1.out.trans (hb.mono HB1.out.size))
        clear hb
        go_wp2_with fail
        go_ret
        exact ⟨rfl, HB2.out⟩
      · obtain ⟨vs, hvs⟩ : ∃ x, x = crM 0 (byL s) := ⟨_, rfl⟩
        have hvsl : vs < 4294967296 := by rw [hvs]; exact crM_lt (byL_lt s)
        have HV1 : Hid (moI 0 s = (vs : Int)) := by show _ = _; rw [show (0 : Int) = ((0 : Nat) : Int) from rfl, moI_yes (by decide), hvs]
        obtain ⟨p, hp⟩ : ∃ x, x = moI 0 (s ++ t) := ⟨_, rfl⟩
        have HP := hid hp
        have HV2 : Hid (moI (vs : Int) t = p) := by
          show _ = _
          rw [hp, moI_yes hvsl, hvs, crM_append (byL_lt s), show (0 : Int) = ((0 : Nat) : Int) from rfl, moI_yes (by decide), byL_append]
        have n1 : ¬ 9223372036854775807 < s.size + t.size := by omega
        clear hvs hvsl hp
        go_enter Try.func4, Try.ntmps4
        go_wp2_with fail
        refine (fixed7_any _).mono ?_
        rintro e w1 ⟨rfl, hb⟩
        have HB1 := hid (HB0.out.trans (hb.mono HB0.out.size))
        clear hb
        go_wp2_with fail
        refine (of_any7 s hl0 _).mono ?_
        rintro e w2 ⟨rfl, hb⟩
        rw [HV1.out]
        have HB2 := hid (HB1.out.trans (hb.mono HB1.out.size))
        clear hb
        go_wp2_with fail
        refine (more_any vs t hl1 _).mono ?_
        rintro e w3 ⟨rfl, hb⟩
        rw [HV2.out]
        have HB3 := hid (HB2.out.trans (hb.mono HB2.out.size))
        clear hb
        go_wp2_with fail
        refine (of_any7 (s ++ t) (by rw [ByteArray.size_append]; omega) _).mono ?_
        rintro e w4 ⟨rfl, hb⟩
        rw [← HP.out]
        have HB4 := hid (HB3.out.trans (hb.mono HB3.out.size))
        clear hb
        obtain ⟨n, hn⟩ : ∃ n, n = min (min s.size t.size) u.size := ⟨_, rfl⟩
        have hn0 : n ≤ s.size := by omega
        have hn1 : n ≤ t.size := by omega
        have hn2 : n ≤ u.size := by omega
        have hns : n ≤ 1000 := by omega
        have HN := hid hn
        clear hn n1
        go_upto_region 5 with fail
        go_cut [7] from 37 to 43 (fun z wx => z = .int .i64 (n : Int) ∧ Below w4.heap.size w4 wx)
        case first =>
          have HBR := hid (Below.refl w4.heap.size w4)
          go_wp2_with fail
          all_goals go_meet
          all_goals exact ⟨by have := HN.out; congr 1; omega, HBR.out⟩
        case rest =>
          rename World => w5
          obtain ⟨rfl, hb⟩ := hcut
          have HB5 := hid (HB4.out.trans (hb.mono HB4.out.size))
          clear hb
          have HR0 : Hid (w5.ownsRow w5.heap.size 5 1 (.slice none 0 0) 0 ((x3 s t u 0).map b8)) := World.ownsRow_nil _ _ _ _
          have HBR := hid (Below.refl w5.heap.size w5)
          go_wp2_with fail
          go_loopw [9, 8] (fun i x wr => ∃ (k : Nat) (A : Option Addr) (c : Nat), k ≤ n ∧ i = .int .i64 k ∧ x = .slice A k c ∧ wr.ownsRow w5.heap.size 5 1 (.slice A k c) k ((x3 s t u k).map b8) ∧ Below w5.heap.size w5 wr) (fun i _ _ => n - (intOf i).toNat)
          case atStart => exact ⟨0, none, 0, Nat.zero_le _, rfl, rfl, HR0.out, HBR.out⟩
          case round =>
            obtain ⟨k, A, c, hk, rfl, rfl, hown, hbw⟩ := hrel
            have HO := hid hown
            have HW := hid hbw
            clear hown hbw
            by_cases hlt : k < n
            · have k0 : k < s.size := by omega
              have k1 : k < t.size := by omega
              have k2 : k < u.size := by omega
              have hltI : (k : Int) < n := by omega
              obtain ⟨a0, ha0⟩ : ∃ x, x = (s[k]'k0).toNat := ⟨_, rfl⟩
              obtain ⟨a1, ha1⟩ : ∃ x, x = (t[k]'k1).toNat := ⟨_, rfl⟩
              obtain ⟨a2, ha2⟩ : ∃ x, x = (u[k]'k2).toNat := ⟨_, rfl⟩
              have l0 : a0 < 256 := by rw [ha0]; exact (s[k]'k0).toNat_lt
              have l1 : a1 < 256 := by rw [ha1]; exact (t[k]'k1).toNat_lt
              have l2 : a2 < 256 := by rw [ha2]; exact (u[k]'k2).toNat_lt
              obtain ⟨y1, hy1⟩ : ∃ x, x = a0 ^^^ a1 := ⟨_, rfl⟩
              obtain ⟨y, hy⟩ : ∃ x, x = y1 ^^^ a2 := ⟨_, rfl⟩
              have l3 : y1 < 256 := by rw [hy1]; exact Nat.xor_lt_two_pow (n := 8) l0 l1
              have HST : Hid (x3 s t u (k + 1) = x3 s t u k ++ [y]) := by
                show _ = _
                rw [x3_step s t u k k0 k1 k2, hy, hy1, ha0, ha1, ha2]
              have b0 : ((s[k]'k0).toNat : Int) = (a0 : Int) := by rw [ha0]
              have b1 : ((t[k]'k1).toNat : Int) = (a1 : Int) := by rw [ha1]
              have b2 : ((u[k]'k2).toNat : Int) = (a2 : Int) := by rw [ha2]
              have b3 : bits .xor .u8 (a0 : Int) (a1 : Int) = (y1 : Int) := by rw [hy1]; exact u8_xor_nat a0 a1 l0 l1
              have b4 : bits .xor .u8 (y1 : Int) (a2 : Int) = (y : Int) := by rw [hy]; exact u8_xor_nat y1 a2 l3 l2
              have HAL := hid (below_alloc wr (.cells #[.int .u8 (y : Int)] 5)).drew
              have HN5 := hid ((Lies.new wr 5 #[.int .u8 (y : Int)]).drew)
              have HO5 := hid (own_later HO.out HAL.out)
              have HW5 := hid (HW.out.trans (HAL.out.mono HW.out.size))
              clear ha0 ha1 ha2 hy1 hy
              go_upto_region 10 with fail
              refine wp_region_held_drew (S := (fun _ => True)) (by kernel_rfl) ?_ (fun hH0 => ?_)
              · exact trivial
              refine wpAnyH_take (i := 0) (oi := { dst := some 49, op := Go.Op.move (Go.Operand.tmp 8), type := 27, pos := "law.go:33", after := #[], guard := none }) (v := ?vv1) rfl (by kernel_rfl) (by kernel_rfl) (by kernel_rfl) (fun _ _ _ h => h) (Or.inl ⟨by rfl, ?hy1⟩) (by assumption) ?rr1
              case hy1 => intro w hSw; (try dsimp only at hSw); go_simp; all_goals with_reducible rfl
              try simp only [Act.put, List.setIfInBounds_toArray, List.set_cons_zero, List.set_cons_succ]
              refine wpAnyH_take (i := 1) (oi := { dst := some 50, op := Go.Op.move (Go.Operand.tmp 0), type := 9, pos := "law.go:33", after := #[], guard := none }) (v := ?vv2) rfl (by kernel_rfl) (by kernel_rfl) (by kernel_rfl) (fun _ _ _ h => h) (Or.inl ⟨by rfl, ?hy2⟩) (by assumption) ?rr2
              case hy2 => intro w hSw; (try dsimp only at hSw); go_simp; all_goals with_reducible rfl
              try simp only [Act.put, List.setIfInBounds_toArray, List.set_cons_zero, List.set_cons_succ]
              refine wpAnyH_take (i := 2) (oi := { dst := some 51, op := Go.Op.move (Go.Operand.tmp 9), type := 3, pos := "law.go:33", after := #[], guard := none }) (v := ?vv3) rfl (by kernel_rfl) (by kernel_rfl) (by kernel_rfl) (fun _ _ _ h => h) (Or.inl ⟨by rfl, ?hy3⟩) (by assumption) ?rr3
              case hy3 => intro w hSw; (try dsimp only at hSw); go_simp; all_goals with_reducible rfl
              try simp only [Act.put, List.setIfInBounds_toArray, List.set_cons_zero, List.set_cons_succ]
              refine wpAnyH_take (i := 3) (oi := { dst := some 52, op := Go.Op.index 9 (Go.Operand.tmp 50) (Go.Operand.tmp 51), type := 5, pos := "law.go:33", after := #[{ on := 1, ground := Go.Ground.data }, { on := 2, ground := Go.Ground.data }], guard := none }) (v := ?vv4) rfl (by kernel_rfl) (by kernel_rfl) (by kernel_rfl) (fun _ _ _ h => h) (Or.inl ⟨by rfl, ?hy4⟩) (by assumption) ?rr4
              case hy4 => intro w hSw; (try dsimp only at hSw); go_simp; all_goals with_reducible rfl
              try simp only [Act.put, List.setIfInBounds_toArray, List.set_cons_zero, List.set_cons_succ]
              refine wpAnyH_take (i := 4) (oi := { dst := some 53, op := Go.Op.move (Go.Operand.tmp 1), type := 9, pos := "law.go:33", after := #[], guard := none }) (v := ?vv5) rfl (by kernel_rfl) (by kernel_rfl) (by kernel_rfl) (fun _ _ _ h => h) (Or.inl ⟨by rfl, ?hy5⟩) (by assumption) ?rr5
              case hy5 => intro w hSw; (try dsimp only at hSw); go_simp; all_goals with_reducible rfl
              try simp only [Act.put, List.setIfInBounds_toArray, List.set_cons_zero, List.set_cons_succ]
              refine wpAnyH_take (i := 5) (oi := { dst := some 54, op := Go.Op.move (Go.Operand.tmp 9), type := 3, pos := "law.go:33", after := #[], guard := none }) (v := ?vv6) rfl (by kernel_rfl) (by kernel_rfl) (by kernel_rfl) (fun _ _ _ h => h) (Or.inl ⟨by rfl, ?hy6⟩) (by assumption) ?rr6
              case hy6 => intro w hSw; (try dsimp only at hSw); go_simp; all_goals with_reducible rfl
              try simp only [Act.put, List.setIfInBounds_toArray, List.set_cons_zero, List.set_cons_succ]
              refine wpAnyH_take (i := 6) (oi := { dst := some 55, op := Go.Op.index 9 (Go.Operand.tmp 53) (Go.Operand.tmp 54), type := 5, pos := "law.go:33", after := #[{ on := 4, ground := Go.Ground.data }, { on := 5, ground := Go.Ground.data }], guard := none }) (v := ?vv7) rfl (by kernel_rfl) (by kernel_rfl) (by kernel_rfl) (fun _ _ _ h => h) (Or.inl ⟨by rfl, ?hy7⟩) (by assumption) ?rr7
              case hy7 => intro w hSw; (try dsimp only at hSw); go_simp; all_goals with_reducible rfl
              try simp only [Act.put, List.setIfInBounds_toArray, List.set_cons_zero, List.set_cons_succ]
              refine wpAnyH_take (i := 7) (oi := { dst := some 56, op := Go.Op.binOp Go.BinOp.xor 5 (Go.Operand.tmp 52) (Go.Operand.tmp 55) 5, type := 5, pos := "law.go:33", after := #[{ on := 3, ground := Go.Ground.data }, { on := 6, ground := Go.Ground.data }], guard := none }) (v := ?vv8) rfl (by kernel_rfl) (by kernel_rfl) (by kernel_rfl) (fun _ _ _ h => h) (Or.inl ⟨by rfl, ?hy8⟩) (by assumption) ?rr8
              case hy8 => intro w hSw; (try dsimp only at hSw); go_simp; all_goals with_reducible rfl
              try simp only [Act.put, List.setIfInBounds_toArray, List.set_cons_zero, List.set_cons_succ]
              refine wpAnyH_take (i := 8) (oi := { dst := some 57, op := Go.Op.move (Go.Operand.tmp 2), type := 9, pos := "law.go:33", after := #[], guard := none }) (v := ?vv9) rfl (by kernel_rfl) (by kernel_rfl) (by kernel_rfl) (fun _ _ _ h => h) (Or.inl ⟨by rfl, ?hy9⟩) (by assumption) ?rr9
              case hy9 => intro w hSw; (try dsimp only at hSw); go_simp; all_goals with_reducible rfl
              try simp only [Act.put, List.setIfInBounds_toArray, List.set_cons_zero, List.set_cons_succ]
              refine wpAnyH_take (i := 9) (oi := { dst := some 58, op := Go.Op.move (Go.Operand.tmp 9), type := 3, pos := "law.go:33", after := #[], guard := none }) (v := ?vv10) rfl (by kernel_rfl) (by kernel_rfl) (by kernel_rfl) (fun _ _ _ h => h) (Or.inl ⟨by rfl, ?hy10⟩) (by assumption) ?rr10
              case hy10 => intro w hSw; (try dsimp only at hSw); go_simp; all_goals with_reducible rfl
              try simp only [Act.put, List.setIfInBounds_toArray, List.set_cons_zero, List.set_cons_succ]
              refine wpAnyH_take (i := 10) (oi := { dst := some 59, op := Go.Op.index 9 (Go.Operand.tmp 57) (Go.Operand.tmp 58), type := 5, pos := "law.go:33", after := #[{ on := 8, ground := Go.Ground.data }, { on := 9, ground := Go.Ground.data }], guard := none }) (v := ?vv11) rfl (by kernel_rfl) (by kernel_rfl) (by kernel_rfl) (fun _ _ _ h => h) (Or.inl ⟨by rfl, ?hy11⟩) (by assumption) ?rr11
              case hy11 => intro w hSw; (try dsimp only at hSw); go_simp; all_goals with_reducible rfl
              try simp only [Act.put, List.setIfInBounds_toArray, List.set_cons_zero, List.set_cons_succ]
              refine wpAnyH_take (i := 11) (oi := { dst := some 60, op := Go.Op.binOp Go.BinOp.xor 5 (Go.Operand.tmp 56) (Go.Operand.tmp 59) 5, type := 5, pos := "law.go:33", after := #[{ on := 7, ground := Go.Ground.data }, { on := 10, ground := Go.Ground.data }], guard := none }) (v := ?vv12) rfl (by kernel_rfl) (by kernel_rfl) (by kernel_rfl) (fun _ _ _ h => h) (Or.inl ⟨by rfl, ?hy12⟩) (by assumption) ?rr12
              case hy12 => intro w hSw; (try dsimp only at hSw); go_simp; all_goals with_reducible rfl
              try simp only [Act.put, List.setIfInBounds_toArray, List.set_cons_zero, List.set_cons_succ]
              refine wpAnyH_ready (rs := [12]) (by kernel_rfl) (by simp) ?_
              refine AllReadyH.cons (i := 12) (o := { dst := some 61, op := Go.Op.buildSlice 27 1 #[(0, Go.Operand.tmp 60)], type := 27, pos := "law.go:33", after := #[{ on := 11, ground := Go.Ground.data }], guard := none }) rfl (fun K hK => ?_) AllReadyH.nil
              go_simp
              refine hK.out _ _ ?_ (fun hH1 => ?_)
              · exact trivial
              clear hK K
              try simp only [Act.put, List.setIfInBounds_toArray, List.set_cons_zero, List.set_cons_succ]
              refine wpAnyH_ready (rs := [13]) (by kernel_rfl) (by simp) ?_
              refine AllReadyH.cons (i := 13) (o := { dst := some 62, op := Go.Op.call { callee := Go.Callee.builtin Go.Builtin.append, args := #[Go.Operand.tmp 49, Go.Operand.tmp 61], argTypes := #[27, 27] }, type := 27, pos := "law.go:33", after := #[{ on := 0, ground := Go.Ground.data }, { on := 12, ground := Go.Ground.data }], guard := none }) rfl (fun K hK => ?_) AllReadyH.nil
              obtain ⟨A2, c2, w2', hr, ho, hb2⟩ := run_append_byte HO5.out HW5.out HN5.out (by omega)
              have HR := hid hr
              have HO6 := hid ho
              have HB6 := hid hb2
              clear hr ho hb2
              rw [if_pos (by rfl)]
              refine wp_append_run7 (.tmp 49) (.tmp 61) 27 rfl _ _ HR.out ?_
              refine hK.out _ _ ?_ (fun hH2 => ?_)
              · exact trivial
              clear hK K
              try simp only [Act.put, List.setIfInBounds_toArray, List.set_cons_zero, List.set_cons_succ]
              refine wpAnyH_take (i := 14) (oi := { dst := some 8, op := Go.Op.assign (Go.Operand.tmp 62), type := 27, pos := "law.go:33", after := #[{ on := 13, ground := Go.Ground.data }, { on := 13, ground := Go.Ground.chain }, { on := 0, ground := Go.Ground.phase }, { on := 1, ground := Go.Ground.phase }, { on := 2, ground := Go.Ground.phase }, { on := 3, ground := Go.Ground.phase }, { on := 4, ground := Go.Ground.phase }, { on := 5, ground := Go.Ground.phase }, { on := 6, ground := Go.Ground.phase }, { on := 7, ground := Go.Ground.phase }, { on := 8, ground := Go.Ground.phase }, { on := 9, ground := Go.Ground.phase }, { on := 10, ground := Go.Ground.phase }, { on := 11, ground := Go.Ground.phase }, { on := 12, ground := Go.Ground.phase }, { on := 13, ground := Go.Ground.phase }], guard := none }) (v := ?vv13) rfl (by kernel_rfl) (by kernel_rfl) (by kernel_rfl) (fun _ _ _ h => h) (Or.inl ⟨by rfl, ?hy13⟩) (by assumption) ?rr13
              case hy13 => intro w hSw; (try dsimp only at hSw); go_simp; all_goals with_reducible rfl
              try simp only [Act.put, List.setIfInBounds_toArray, List.set_cons_zero, List.set_cons_succ]
              refine wpAnyH_done (by kernel_rfl) ?_ _
              go_wp2_with fail
              go_roundw
              case rel => exact ⟨k + 1, A2, c2, by omega, by go_num, rfl, by rw [HST.out]; exact HO6.out, HB6.out⟩
              case measure => simp [intOf]; omega

            · obtain rfl : k = n := by omega
              obtain ⟨X, hX⟩ : ∃ X : ByteArray, X = ⟨((x3 s t u k).map UInt8.ofNat).toArray⟩ := ⟨_, rfl⟩
              have HCV : Hid (∀ v : World, Below wr.heap.size wr v → (convert 27 9 (.slice A k c)).run Try.prog v = .ok (.string X) v) := fun v hv => by
                rw [hX]
                exact conv_row (own_later HO.out hv) (x3_len s t u k) (x3_lt s t u k)
              have hsum := three_sums s t u k hn0 hn1 hn2
              rw [← hX] at hsum
              obtain ⟨p1, hp1⟩ : ∃ x, x = crM 0 (byL (s.extract 0 k)) := ⟨_, rfl⟩
              obtain ⟨p2, hp2⟩ : ∃ x, x = crM 0 (byL (t.extract 0 k)) := ⟨_, rfl⟩
              obtain ⟨p3, hp3⟩ : ∃ x, x = crM 0 (byL (u.extract 0 k)) := ⟨_, rfl⟩
              obtain ⟨p4, hp4⟩ : ∃ x, x = crM 0 (byL X) := ⟨_, rfl⟩
              have m1 : p1 < 4294967296 := by rw [hp1]; exact crM_lt (byL_lt _)
              have m2 : p2 < 4294967296 := by rw [hp2]; exact crM_lt (byL_lt _)
              have m3 : p3 < 4294967296 := by rw [hp3]; exact crM_lt (byL_lt _)
              have H1 : Hid (moI 0 (s.extract 0 k) = (p1 : Int)) := by show _ = _; rw [show (0 : Int) = ((0 : Nat) : Int) from rfl, moI_yes (by decide), hp1]
              have H2 : Hid (moI 0 (t.extract 0 k) = (p2 : Int)) := by show _ = _; rw [show (0 : Int) = ((0 : Nat) : Int) from rfl, moI_yes (by decide), hp2]
              have H3 : Hid (moI 0 (u.extract 0 k) = (p3 : Int)) := by show _ = _; rw [show (0 : Int) = ((0 : Nat) : Int) from rfl, moI_yes (by decide), hp3]
              have H4 : Hid (moI 0 X = (p4 : Int)) := by show _ = _; rw [show (0 : Int) = ((0 : Nat) : Int) from rfl, moI_yes (by decide), hp4]
              have z1 : (s.extract 0 k).size ≤ 9223372036854775807 := by rw [ByteArray.size_extract]; omega
              have z2 : (t.extract 0 k).size ≤ 9223372036854775807 := by rw [ByteArray.size_extract]; omega
              have z3 : (u.extract 0 k).size ≤ 9223372036854775807 := by rw [ByteArray.size_extract]; omega
              have z4 : X.size ≤ 9223372036854775807 := by
                rw [hX]
                have : (⟨((x3 s t u k).map UInt8.ofNat).toArray⟩ : ByteArray).size = k := by
                  show ((x3 s t u k).map UInt8.ofNat).toArray.size = k
                  simp [x3_len]
                omega
              have Z1 := hid z1
              have Z2 := hid z2
              have Z3 := hid z3
              have Z4 := hid z4
              obtain ⟨p5, hp5⟩ : ∃ x, x = p1 ^^^ p2 := ⟨_, rfl⟩
              have m5 : p5 < 4294967296 := by rw [hp5]; exact Nat.xor_lt_two_pow (n := 32) m1 m2
              have e1 : bits .xor .i64 (p1 : Int) (p2 : Int) = (p5 : Int) := by rw [hp5]; exact xor_i64 p1 p2 m1 m2
              have e2 : bits .xor .i64 (p5 : Int) (p3 : Int) = (p4 : Int) := by
                rw [hp4, ← hsum, ← hp1, ← hp2, ← hp3, ← hp5]; exact xor_i64 p5 p3 m5 m3
              clear hX hsum hp1 hp2 hp3 hp4 hp5 z1 z2 z3 z4
              go_upto_region 11 with fail
              refine wp_region_held_drew (S := (fun w' => (convert 27 9 (.slice A k c)).run Try.prog w' = .ok (.string X) w')) (by kernel_rfl) ?_ (fun hH0 => ?_)
              · exact (by first | exact HCV.out _ (Below.refl _ _) | exact HCV.out _ (Below.refl _ _).drew)
              refine wpAnyH_take (i := 0) (oi := { dst := some 63, op := Go.Op.move (Go.Operand.tmp 0), type := 9, pos := "law.go:35", after := #[], guard := none }) (v := ?vv14) rfl (by kernel_rfl) (by kernel_rfl) (by kernel_rfl) (fun _ _ _ h => h) (Or.inl ⟨by rfl, ?hy14⟩) (by assumption) ?rr14
              case hy14 => intro w hSw; (try dsimp only at hSw); go_simp; all_goals with_reducible rfl
              try simp only [Act.put, List.setIfInBounds_toArray, List.set_cons_zero, List.set_cons_succ]
              refine wpAnyH_take (i := 1) (oi := { dst := some 64, op := Go.Op.move (Go.Operand.tmp 7), type := 3, pos := "law.go:35", after := #[], guard := none }) (v := ?vv15) rfl (by kernel_rfl) (by kernel_rfl) (by kernel_rfl) (fun _ _ _ h => h) (Or.inl ⟨by rfl, ?hy15⟩) (by assumption) ?rr15
              case hy15 => intro w hSw; (try dsimp only at hSw); go_simp; all_goals with_reducible rfl
              try simp only [Act.put, List.setIfInBounds_toArray, List.set_cons_zero, List.set_cons_succ]
              refine wpAnyH_take (i := 2) (oi := { dst := some 65, op := Go.Op.slice 9 (Go.Operand.tmp 63) none (some (Go.Operand.tmp 64)) none, type := 9, pos := "law.go:35", after := #[{ on := 0, ground := Go.Ground.data }, { on := 1, ground := Go.Ground.data }], guard := none }) (v := ?vv16) rfl (by kernel_rfl) (by kernel_rfl) (by kernel_rfl) (fun _ _ _ h => h) (Or.inl ⟨by rfl, ?hy16⟩) (by assumption) ?rr16
              case hy16 => intro w hSw; (try dsimp only at hSw); go_simp; all_goals with_reducible rfl
              try simp only [Act.put, List.setIfInBounds_toArray, List.set_cons_zero, List.set_cons_succ]
              refine wpAnyH_take (i := 4) (oi := { dst := some 67, op := Go.Op.move (Go.Operand.tmp 1), type := 9, pos := "law.go:35", after := #[], guard := none }) (v := ?vv17) rfl (by kernel_rfl) (by kernel_rfl) (by kernel_rfl) (fun _ _ _ h => h) (Or.inl ⟨by rfl, ?hy17⟩) (by assumption) ?rr17
              case hy17 => intro w hSw; (try dsimp only at hSw); go_simp; all_goals with_reducible rfl
              try simp only [Act.put, List.setIfInBounds_toArray, List.set_cons_zero, List.set_cons_succ]
              refine wpAnyH_take (i := 5) (oi := { dst := some 68, op := Go.Op.move (Go.Operand.tmp 7), type := 3, pos := "law.go:35", after := #[], guard := none }) (v := ?vv18) rfl (by kernel_rfl) (by kernel_rfl) (by kernel_rfl) (fun _ _ _ h => h) (Or.inl ⟨by rfl, ?hy18⟩) (by assumption) ?rr18
              case hy18 => intro w hSw; (try dsimp only at hSw); go_simp; all_goals with_reducible rfl
              try simp only [Act.put, List.setIfInBounds_toArray, List.set_cons_zero, List.set_cons_succ]
              refine wpAnyH_take (i := 6) (oi := { dst := some 69, op := Go.Op.slice 9 (Go.Operand.tmp 67) none (some (Go.Operand.tmp 68)) none, type := 9, pos := "law.go:35", after := #[{ on := 4, ground := Go.Ground.data }, { on := 5, ground := Go.Ground.data }], guard := none }) (v := ?vv19) rfl (by kernel_rfl) (by kernel_rfl) (by kernel_rfl) (fun _ _ _ h => h) (Or.inl ⟨by rfl, ?hy19⟩) (by assumption) ?rr19
              case hy19 => intro w hSw; (try dsimp only at hSw); go_simp; all_goals with_reducible rfl
              try simp only [Act.put, List.setIfInBounds_toArray, List.set_cons_zero, List.set_cons_succ]
              refine wpAnyH_take (i := 9) (oi := { dst := some 72, op := Go.Op.move (Go.Operand.tmp 2), type := 9, pos := "law.go:35", after := #[], guard := none }) (v := ?vv20) rfl (by kernel_rfl) (by kernel_rfl) (by kernel_rfl) (fun _ _ _ h => h) (Or.inl ⟨by rfl, ?hy20⟩) (by assumption) ?rr20
              case hy20 => intro w hSw; (try dsimp only at hSw); go_simp; all_goals with_reducible rfl
              try simp only [Act.put, List.setIfInBounds_toArray, List.set_cons_zero, List.set_cons_succ]
              refine wpAnyH_take (i := 10) (oi := { dst := some 73, op := Go.Op.move (Go.Operand.tmp 7), type := 3, pos := "law.go:35", after := #[], guard := none }) (v := ?vv21) rfl (by kernel_rfl) (by kernel_rfl) (by kernel_rfl) (fun _ _ _ h => h) (Or.inl ⟨by rfl, ?hy21⟩) (by assumption) ?rr21
              case hy21 => intro w hSw; (try dsimp only at hSw); go_simp; all_goals with_reducible rfl
              try simp only [Act.put, List.setIfInBounds_toArray, List.set_cons_zero, List.set_cons_succ]
              refine wpAnyH_take (i := 11) (oi := { dst := some 74, op := Go.Op.slice 9 (Go.Operand.tmp 72) none (some (Go.Operand.tmp 73)) none, type := 9, pos := "law.go:35", after := #[{ on := 9, ground := Go.Ground.data }, { on := 10, ground := Go.Ground.data }], guard := none }) (v := ?vv22) rfl (by kernel_rfl) (by kernel_rfl) (by kernel_rfl) (fun _ _ _ h => h) (Or.inl ⟨by rfl, ?hy22⟩) (by assumption) ?rr22
              case hy22 => intro w hSw; (try dsimp only at hSw); go_simp; all_goals with_reducible rfl
              try simp only [Act.put, List.setIfInBounds_toArray, List.set_cons_zero, List.set_cons_succ]
              refine wpAnyH_take (i := 14) (oi := { dst := some 77, op := Go.Op.move (Go.Operand.tmp 8), type := 27, pos := "law.go:35", after := #[], guard := none }) (v := ?vv23) rfl (by kernel_rfl) (by kernel_rfl) (by kernel_rfl) (fun _ _ _ h => h) (Or.inl ⟨by rfl, ?hy23⟩) (by assumption) ?rr23
              case hy23 => intro w hSw; (try dsimp only at hSw); go_simp; all_goals with_reducible rfl
              try simp only [Act.put, List.setIfInBounds_toArray, List.set_cons_zero, List.set_cons_succ]
              refine wpAnyH_take (i := 15) (oi := { dst := some 78, op := Go.Op.convert 27 9 (Go.Operand.tmp 77), type := 9, pos := "law.go:35", after := #[{ on := 14, ground := Go.Ground.data }], guard := none }) (v := ?vv24) rfl (by kernel_rfl) (by kernel_rfl) (by kernel_rfl) (fun _ _ _ h => h) (Or.inl ⟨by rfl, ?hy24⟩) (by assumption) ?rr24
              case hy24 => intro w hSw; (try dsimp only at hSw); go_simp; all_goals with_reducible rfl
              try simp only [Act.put, List.setIfInBounds_toArray, List.set_cons_zero, List.set_cons_succ]
              refine wpAnyH_ready (rs := [3]) (by kernel_rfl) (by simp) ?_
              refine AllReadyH.cons (i := 3) (o := { dst := some 66, op := Go.Op.call { callee := Go.Callee.value (Go.Operand.func 8), args := #[Go.Operand.tmp 65], argTypes := #[9] }, type := 3, pos := "law.go:35", after := #[{ on := 2, ground := Go.Ground.data }], guard := none }) rfl (fun K hK => ?_) AllReadyH.nil
              go_simp
              go_at_call 8
              refine (of_any7 (s.extract 0 k) Z1.out _).mono ?_
              rintro e v1 ⟨rfl, hb⟩
              rw [H1.out]
              have HV1 := hid (then_w (Below.refl wr.heap.size wr).drew hb)
              refine hK.out _ _ ?_ (fun hH1 => ?_)
              · exact HCV.out _ HV1.out
              clear hK K
              try simp only [Act.put, List.setIfInBounds_toArray, List.set_cons_zero, List.set_cons_succ]
              clear hb
              refine wpAnyH_ready (rs := [7]) (by kernel_rfl) (by simp) ?_
              refine AllReadyH.cons (i := 7) (o := { dst := some 70, op := Go.Op.call { callee := Go.Callee.value (Go.Operand.func 8), args := #[Go.Operand.tmp 69], argTypes := #[9] }, type := 3, pos := "law.go:35", after := #[{ on := 6, ground := Go.Ground.data }, { on := 3, ground := Go.Ground.chain }], guard := none }) rfl (fun K hK => ?_) AllReadyH.nil
              go_simp
              go_at_call 8
              refine (of_any7 (t.extract 0 k) Z2.out _).mono ?_
              rintro e v2 ⟨rfl, hb⟩
              rw [H2.out]
              have HV2 := hid (then_w HV1.out hb)
              refine hK.out _ _ ?_ (fun hH2 => ?_)
              · exact HCV.out _ HV2.out
              clear hK K
              try simp only [Act.put, List.setIfInBounds_toArray, List.set_cons_zero, List.set_cons_succ]
              clear hb
              refine wpAnyH_take (i := 8) (oi := { dst := some 71, op := Go.Op.binOp Go.BinOp.xor 3 (Go.Operand.tmp 66) (Go.Operand.tmp 70) 3, type := 3, pos := "law.go:35", after := #[{ on := 3, ground := Go.Ground.data }, { on := 7, ground := Go.Ground.data }], guard := none }) (v := ?vv25) rfl (by kernel_rfl) (by kernel_rfl) (by kernel_rfl) (fun _ _ _ h => h) (Or.inl ⟨by rfl, ?hy25⟩) (by assumption) ?rr25
              case hy25 => intro w hSw; (try dsimp only at hSw); go_simp; all_goals with_reducible rfl
              try simp only [Act.put, List.setIfInBounds_toArray, List.set_cons_zero, List.set_cons_succ]
              refine wpAnyH_ready (rs := [12]) (by kernel_rfl) (by simp) ?_
              refine AllReadyH.cons (i := 12) (o := { dst := some 75, op := Go.Op.call { callee := Go.Callee.value (Go.Operand.func 8), args := #[Go.Operand.tmp 74], argTypes := #[9] }, type := 3, pos := "law.go:35", after := #[{ on := 11, ground := Go.Ground.data }, { on := 7, ground := Go.Ground.chain }], guard := none }) rfl (fun K hK => ?_) AllReadyH.nil
              go_simp
              go_at_call 8
              refine (of_any7 (u.extract 0 k) Z3.out _).mono ?_
              rintro e v3 ⟨rfl, hb⟩
              rw [H3.out]
              have HV3 := hid (then_w HV2.out hb)
              refine hK.out _ _ ?_ (fun hH3 => ?_)
              · exact HCV.out _ HV3.out
              clear hK K
              try simp only [Act.put, List.setIfInBounds_toArray, List.set_cons_zero, List.set_cons_succ]
              clear hb
              refine wpAnyH_take (i := 13) (oi := { dst := some 76, op := Go.Op.binOp Go.BinOp.xor 3 (Go.Operand.tmp 71) (Go.Operand.tmp 75) 3, type := 3, pos := "law.go:35", after := #[{ on := 8, ground := Go.Ground.data }, { on := 12, ground := Go.Ground.data }], guard := none }) (v := ?vv26) rfl (by kernel_rfl) (by kernel_rfl) (by kernel_rfl) (fun _ _ _ h => h) (Or.inl ⟨by rfl, ?hy26⟩) (by assumption) ?rr26
              case hy26 => intro w hSw; (try dsimp only at hSw); go_simp; all_goals with_reducible rfl
              try simp only [Act.put, List.setIfInBounds_toArray, List.set_cons_zero, List.set_cons_succ]
              refine wpAnyH_ready (rs := [16]) (by kernel_rfl) (by simp) ?_
              refine AllReadyH.cons (i := 16) (o := { dst := some 79, op := Go.Op.call { callee := Go.Callee.value (Go.Operand.func 8), args := #[Go.Operand.tmp 78], argTypes := #[9] }, type := 3, pos := "law.go:35", after := #[{ on := 15, ground := Go.Ground.data }, { on := 12, ground := Go.Ground.chain }], guard := none }) rfl (fun K hK => ?_) AllReadyH.nil
              go_simp
              go_at_call 8
              refine (of_any7 (X) Z4.out _).mono ?_
              rintro e v4 ⟨rfl, hb⟩
              rw [H4.out]
              have HV4 := hid (then_w HV3.out hb)
              refine hK.out _ _ ?_ (fun hH4 => ?_)
              · exact HCV.out _ HV4.out
              clear hK K
              try simp only [Act.put, List.setIfInBounds_toArray, List.set_cons_zero, List.set_cons_succ]
              clear hb
              refine wpAnyH_take (i := 17) (oi := { dst := some 80, op := Go.Op.binOp Go.BinOp.eql 3 (Go.Operand.tmp 76) (Go.Operand.tmp 79) 3, type := 4, pos := "law.go:35", after := #[{ on := 13, ground := Go.Ground.data }, { on := 16, ground := Go.Ground.data }], guard := none }) (v := ?vv27) rfl (by kernel_rfl) (by kernel_rfl) (by kernel_rfl) (fun _ _ _ h => h) (Or.inl ⟨by rfl, ?hy27⟩) (by assumption) ?rr27
              case hy27 => intro w hSw; (try dsimp only at hSw); go_simp; all_goals with_reducible rfl
              try simp only [Act.put, List.setIfInBounds_toArray, List.set_cons_zero, List.set_cons_succ]
              refine wpAnyH_take (i := 18) (oi := { dst := some 6, op := Go.Op.assign (Go.Operand.tmp 80), type := 4, pos := "law.go:35", after := #[{ on := 17, ground := Go.Ground.data }, { on := 16, ground := Go.Ground.chain }, { on := 0, ground := Go.Ground.phase }, { on := 1, ground := Go.Ground.phase }, { on := 2, ground := Go.Ground.phase }, { on := 3, ground := Go.Ground.phase }, { on := 4, ground := Go.Ground.phase }, { on := 5, ground := Go.Ground.phase }, { on := 6, ground := Go.Ground.phase }, { on := 7, ground := Go.Ground.phase }, { on := 8, ground := Go.Ground.phase }, { on := 9, ground := Go.Ground.phase }, { on := 10, ground := Go.Ground.phase }, { on := 11, ground := Go.Ground.phase }, { on := 12, ground := Go.Ground.phase }, { on := 13, ground := Go.Ground.phase }, { on := 14, ground := Go.Ground.phase }, { on := 15, ground := Go.Ground.phase }, { on := 16, ground := Go.Ground.phase }, { on := 17, ground := Go.Ground.phase }], guard := none }) (v := ?vv28) rfl (by kernel_rfl) (by kernel_rfl) (by kernel_rfl) (fun _ _ _ h => h) (Or.inl ⟨by rfl, ?hy28⟩) (by assumption) ?rr28
              case hy28 => intro w hSw; (try dsimp only at hSw); go_simp; all_goals with_reducible rfl
              try simp only [Act.put, List.setIfInBounds_toArray, List.set_cons_zero, List.set_cons_succ]
              refine wpAnyH_done (by kernel_rfl) ?_ _
              go_wp2_with fail
              go_ret
              exact ⟨by simp, HB5.out.trans ((HW.out.trans (HV4.out.mono HW.out.size)).mono HB5.out.size)⟩
end Go.Proofs.Ytjpibkcbgogfoab
