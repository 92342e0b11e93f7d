/- The library's builder of strings, embedded in the program's writer: its copy check, a byte, a string, all of it. The program's writer: a number in so many bytes, in four, how many and each. The program's writer: a number in four bytes, how many and each, an object. -/
import Derived.Test.YthggafdfglojaaaKB8
import Derived.Lib.FrozenHead2
import Derived.Lib.OthersKept
import Derived.Lib.Walk
import Derived.Laws.Externs
import Derived.Test.YthggafdfglojaaaKC8
import Derived.Test.YthggafdfglojaaaKD8
namespace Go.Proofs.Ythggafdfglojaaa
open Go.RowKit
set_option maxRecDepth 100000
/-- a writer, in block b, that holds these bytes; all of it of the call's own, from B on -/
abbrev BW8 (B b : Nat) (l : List UInt8) (w : World) : Prop := Lib.IsBuilderF 83 5 B b (Lib.byteCells l) w
/-- whatever is written, what is older and what is no row of bytes stands -/
def WrP8 (B b : Nat) (l : List UInt8) (w w' : World) : Prop := BW8 B b l w' ∧ Below B w w' ∧ Lib.OthersKept 5 (some b) w w'
theorem wr_info8 : (Try.prog.info? 5).map (fun i => (i.zero, i.size, i.bytes)) = some (some (.int .u8 0), 1, 1) := by kernel_rfl
theorem wr_lies8 : liesAt Try.prog Try.prog.depth 83 (2 / Try.prog.cellsOf 83) 0 81 1 = true := by kernel_rfl
theorem wr_size8 : (Try.prog.info? 81).map (·.size) = some 2 := by kernel_rfl
theorem check_used8 (b : Nat) (w : World) (h0 : w.cell? ⟨b, 0, none⟩ = some (.pointer (some ⟨b, 0, none⟩))) :
    Calls Try.prog 106 #[.pointer (some ⟨b, 0, none⟩)] w fun e w' => e = .returned (.tuple #[]) ∧ w' = w := by
  obtain ⟨j, hj, _⟩ := Option.map_eq_some_iff.1 wr_size8
  have hne := Lib.run_neq_ptr_same (P := Try.prog) w ⟨b, 0, none⟩ Try.underlying79 hj
  go_enter Try.func106, Try.ntmps106
  go_wp2
  go_end0
  exact ⟨rfl, rfl⟩
theorem check_fresh8 (b : Nat) (w : World) (h0 : w.cell? ⟨b, 0, none⟩ = some (.pointer none)) (hsh : w.shape? b = some (83, 2)) (hfz : w.frozen? ⟨b, 0, none⟩ = false) :
    Calls Try.prog 106 #[.pointer (some ⟨b, 0, none⟩)] w fun e w' => e = .returned (.tuple #[]) ∧ w' = w.setCell ⟨b, 0, none⟩ (.pointer (some ⟨b, 0, none⟩)) := by
  obtain ⟨j, hj, hjs⟩ := Option.map_eq_some_iff.1 wr_size8
  have hc1 := Lib.run_to_unsafe (P := Try.prog) w ⟨b, 0, none⟩ Try.underlying79 Try.underlying118 hj (by rw [hjs]; decide) hsh (Nat.zero_lt_succ 1)
  have hc2 := Lib.run_from_unsafe (P := Try.prog) w ⟨b, 0, none⟩ Try.underlying118 Try.underlying79 hj hsh wr_lies8
  have hc3 : ∀ (x : Value) (w : World), (callFunc 122 #[x]).run Try.prog w = .ok (.value x) w := fun x w => by
    rw [run_callFunc_extern Try.func122 (by kernel_rfl) (by kernel_rfl) (by kernel_rfl) (e := Extern.AbiNoEscape.same) (by kernel_rfl), Lib.run_noEscape]
    rfl
  go_enter Try.func106, Try.ntmps106
  go_wp2
  go_end0
  exact ⟨rfl, rfl⟩
theorem check_any8 (B b : Nat) (bs : List Value) (w : World) (h : Lib.IsBuilderF 83 5 B b bs w) :
    Calls Try.prog 106 #[.pointer (some ⟨b, 0, none⟩)] w fun e w' => e = .returned (.tuple #[]) ∧ Lib.BuilderAtF 83 5 B b (.pointer (some ⟨b, 0, none⟩)) bs w' ∧ Below B w w' ∧ Lib.OthersKept 5 (some b) w w' := by
  rcases h with h | h
  · refine (check_fresh8 b w h.cell0 h.shape h.frozen0).mono ?_
    rintro e w' ⟨rfl, rfl⟩
    exact ⟨rfl, h.used _, (Below.refl B w).setCell (p := ⟨b, 0, none⟩) h.1 _, (Lib.OthersKept.refl _ _ w).setCell ⟨b, 0, none⟩ rfl _⟩
  · refine (check_used8 b w h.cell0).mono ?_
    rintro e w' ⟨rfl, rfl⟩
    exact ⟨rfl, h, Below.refl B _, Lib.OthersKept.refl _ _ _⟩
theorem wr_ne8 : 83 ≠ 5 := by decide
theorem bytes_snoc8 (l : List UInt8) (c : UInt8) : Lib.byteCells (l ++ [c]) = Lib.byteCells l ++ [.int .u8 c.toNat] := by simp [Lib.byteCells]
set_option maxHeartbeats 2000000 in
theorem wbyte_any8 (B b : Nat) (l : List UInt8) (c : UInt8) (w : World) (h : BW8 B b l w) (hlen : l.length ≤ 1000000) (hBw : B ≤ w.heap.size) :
    Calls Try.prog 123 #[.pointer (some ⟨b, 0, none⟩), .int .u8 c.toNat] w fun e w' => e = .returned .nilIface ∧ WrP8 B b (l ++ [c]) w w' := by
  obtain ⟨i0, hi, hz0, hz1, hz2⟩ := info_parts wr_info8
  go_enter Try.func123, Try.ntmps123
  go_wp2_with fail
  refine (check_any8 B b _ _ h).mono ?_
  rintro e w1 ⟨rfl, h1, hb1, hk1⟩
  obtain ⟨hB, v, hbk, hown, hne⟩ := h1
  rw [Lib.byteCells_length] at hown
  have c0 : w1.cell? ⟨b, 0, none⟩ = some (.pointer (some ⟨b, 0, none⟩)) := by rw [Lib.cell_of_heap hbk]; rfl
  have c1 : w1.cell? ⟨b, 1, none⟩ = some v := by rw [Lib.cell_of_heap hbk]; rfl
  have hlt : b < w1.heap.size := by
    rcases Nat.lt_or_ge b w1.heap.size with h' | h'
    · exact h'
    · simp [Array.getElem?_eq_none h'] at hbk
  go_wp2_with (at_builtin; refine wpList_append_ownF _ rfl _ _ 54 rfl B 5 i0 (.int .u8 0) 1 1 Try.underlying54 hi hz0 hz1 hz2 rfl (by decide) _ _ _ rfl (hown.alloc _) ⟨w1.heap.size, 0, none⟩ 1 1 [.int .u8 c.toNat] rfl rfl ?c1 ?c2 ?c3 ?c4 ?c5 ?_)
  case c1 =>
    intro j u hj
    match j, hj with
    | 0, hj => simp at hj; subst hj; simp [Addr.add]
  case c2 => intro u hu; simp at hu; subst hu; rfl
  case c3 => unfold maxLen; omega
  case c4 => omega
  case c5 => have := hb1.size; simp; omega
  intro v' w2 hown' hgrow _
  have hb2 : w2.heap[b]? = some (.cells #[.pointer (some ⟨b, 0, none⟩), v] 83 (0, 0)) := by
    rw [hgrow.block b (by simp; omega) (fun e => hne e.symm), Lib.alloc_old w1 _ b hlt]
    exact hbk
  have d0 : w2.cell? ⟨b, 0, none⟩ = some (.pointer (some ⟨b, 0, none⟩)) := by rw [Lib.cell_of_heap hb2]; rfl
  have d1 : w2.cell? ⟨b, 1, none⟩ = some v := by rw [Lib.cell_of_heap hb2]; rfl
  have f1 : w2.frozen? ⟨b, 1, none⟩ = false := Lib.frozen_of_heap hb2 1
  obtain ⟨g, cap, rfl⟩ : ∃ g cap, v' = .slice (some ⟨g, 0, none⟩) (l.length + 1) cap := by
    rcases hown'.2 with ⟨_, h0⟩ | ⟨g, cap, cur, fz, hv, _⟩
    · omega
    · exact ⟨g, cap, hv⟩
  have HK : Hid (Lib.OthersKept 5 (some b) w (w2.setCell ⟨b, 1, none⟩ (.slice (some ⟨g, 0, none⟩) (l.length + 1) cap))) := ((hk1.alloc _).grown hgrow (Lib.ownsRowF_kind (hown.alloc _))).setCell ⟨b, 1, none⟩ rfl _
  have HB : Hid (Below B w (w2.setCell ⟨b, 1, none⟩ (.slice (some ⟨g, 0, none⟩) (l.length + 1) cap))) := ((hb1.alloc (by have := hb1.size; omega) _).grown hgrow (by have := hb1.size; simp; omega) (fun k hk => (hown.lt k hk).1)).setCell (p := ⟨b, 1, none⟩) hB _
  have HW : Hid (BW8 B b (l ++ [c]) (w2.setCell ⟨b, 1, none⟩ (.slice (some ⟨g, 0, none⟩) (l.length + 1) cap))) := by
    refine .inr (Lib.BuilderAtF.put hB hb2 ?_ wr_ne8)
    rw [bytes_snoc8, List.length_append, Lib.byteCells_length]
    exact hown'
  clear hown hown' hgrow hk1 hb1
  go_wp2
  go_ret
  exact ⟨rfl, HW.out, HB.out, HK.out⟩
theorem bytes_app8 (l : List UInt8) (s : List UInt8) : Lib.byteCells (l ++ s) = Lib.byteCells l ++ Lib.strCells (str s) := by
  rw [Lib.strCells_eq, list_str]; simp [Lib.byteCells]
set_option maxHeartbeats 2000000 in
theorem wstr_any8 (B b : Nat) (l s : List UInt8) (w : World) (h : BW8 B b l w) (hlen : l.length ≤ 1000000) (hsl : s.length ≤ 1000000) (hBw : B ≤ w.heap.size) :
    Calls Try.prog 74 #[.pointer (some ⟨b, 0, none⟩), .string (str s)] w fun e w' => e = .returned (.tuple #[.int .i64 s.length, .nilIface]) ∧ WrP8 B b (l ++ s) w w' := by
  obtain ⟨i0, hi, hz0, hz1, hz2⟩ := info_parts wr_info8
  have hsz := str_size s
  go_enter Try.func74, Try.ntmps74
  go_wp2_with fail
  refine (check_any8 B b _ _ h).mono ?_
  rintro e w1 ⟨rfl, h1, hb1, hk1⟩
  obtain ⟨hB, v, hbk, hown, hne⟩ := h1
  rw [Lib.byteCells_length] at hown
  have c0 : w1.cell? ⟨b, 0, none⟩ = some (.pointer (some ⟨b, 0, none⟩)) := by rw [Lib.cell_of_heap hbk]; rfl
  have c1 : w1.cell? ⟨b, 1, none⟩ = some v := by rw [Lib.cell_of_heap hbk]; rfl
  have hlt : b < w1.heap.size := by
    rcases Nat.lt_or_ge b w1.heap.size with h' | h'
    · exact h'
    · simp [Array.getElem?_eq_none h'] at hbk
  go_wp2_with (at_builtin; refine Lib.wpList_append_own_stringF _ rfl _ _ 54 9 rfl B 5 i0 Try.underlying54 Try.underlying9 hi hz0 hz1 hz2 _ _ _ rfl hown _ rfl ?c3 ?c4 ?c5 ?_)
  case c3 => unfold maxLen; omega
  case c4 => omega
  case c5 => have := hb1.size; omega
  intro v' w2 hown' hgrow hnil
  have hb2 : w2.heap[b]? = some (.cells #[.pointer (some ⟨b, 0, none⟩), v] 83 (0, 0)) := by
    rw [hgrow.block b hlt (fun e => hne e.symm)]
    exact hbk
  have d0 : w2.cell? ⟨b, 0, none⟩ = some (.pointer (some ⟨b, 0, none⟩)) := by rw [Lib.cell_of_heap hb2]; rfl
  have d1 : w2.cell? ⟨b, 1, none⟩ = some v := by rw [Lib.cell_of_heap hb2]; rfl
  have f1 : w2.frozen? ⟨b, 1, none⟩ = false := Lib.frozen_of_heap hb2 1
  obtain ⟨A, n2, cap, rfl⟩ : ∃ A n cap, v' = .slice A n cap := by
    rcases hown'.2 with ⟨rfl, _⟩ | ⟨g, cap, cur, fz, rfl, _⟩
    · exact ⟨none, 0, 0, rfl⟩
    · exact ⟨_, _, cap, rfl⟩
  have HK : Hid (Lib.OthersKept 5 (some b) w (w2.setCell ⟨b, 1, none⟩ (.slice A n2 cap))) := (hk1.grown hgrow (Lib.ownsRowF_kind hown)).setCell ⟨b, 1, none⟩ rfl _
  have HB : Hid (Below B w (w2.setCell ⟨b, 1, none⟩ (.slice A n2 cap))) := (hb1.grown hgrow (by have := hb1.size; omega) (fun k hk => (hown.lt k hk).1)).setCell (p := ⟨b, 1, none⟩) hB _
  have HW : Hid (BW8 B b (l ++ s) (w2.setCell ⟨b, 1, none⟩ (.slice A n2 cap))) := by
    refine .inr (Lib.BuilderAtF.put hB hb2 ?_ wr_ne8)
    rw [bytes_app8, List.length_append, Lib.byteCells_length, Lib.strCells_length]
    exact hown'
  clear hown hown' hgrow hk1 hb1 hnil
  go_wp2
  go_ret2
  exact ⟨rfl, HW.out, HB.out, HK.out⟩
/-- a writer that holds something: its row -/
theorem wr_row8 {B b : Nat} {l : List UInt8} {w : World} (h : BW8 B b l w) (h0 : l ≠ []) :
    ∃ g cap cur fz, w.cell? ⟨b, 1, none⟩ = some (.slice (some ⟨g, 0, none⟩) l.length cap) ∧ B ≤ g ∧ w.heap[g]? = some (.cells cur 5 fz) ∧ l.length ≤ cap ∧ cap ≤ maxLen ∧ cur.size = cap ∧
      (∀ j x, l[j]? = some x → w.cell? ((⟨g, 0, none⟩ : Addr).add j) = some (.int .u8 x.toNat)) ∧ BW8 B b l (w.freeze ⟨g, 0, none⟩ l.length) := by
  have one : ∀ p, Lib.BuilderAtF 83 5 B b p (Lib.byteCells l) w → ∃ g cap cur fz, w.cell? ⟨b, 1, none⟩ = some (.slice (some ⟨g, 0, none⟩) l.length cap) ∧ B ≤ g ∧ w.heap[g]? = some (.cells cur 5 fz) ∧ l.length ≤ cap ∧ cap ≤ maxLen ∧ cur.size = cap ∧
      (∀ j x, l[j]? = some x → w.cell? ((⟨g, 0, none⟩ : Addr).add j) = some (.int .u8 x.toNat)) ∧ Lib.BuilderAtF 83 5 B b p (Lib.byteCells l) (w.freeze ⟨g, 0, none⟩ l.length) := by
    intro p hA
    have hA2 := hA
    obtain ⟨-, v, hk, hown, -⟩ := hA
    have hv : w.cell? ⟨b, 1, none⟩ = some v := by rw [Lib.cell_of_heap hk]; rfl
    rcases hown.2 with ⟨-, hz⟩ | ⟨g, cap, cur, fz, rfl, hbg, hg, -, hnc, hcm, hcs, -⟩
    · rw [Lib.byteCells_length] at hz
      exact absurd (List.length_eq_zero_iff.1 hz) h0
    · have hF := hA2.froze (g := g) (cap := cap) hv
      rw [Lib.byteCells_length] at hv hF hnc
      exact ⟨g, cap, cur, fz, hv, hbg, hg, hnc, hcm, by omega, fun j x hx => hown.cells (g := g) rfl j _ (by simp [Lib.byteCells, hx]), hF⟩
  rcases h with h | h
  · obtain ⟨g, cap, cur, fz, h1, h2, h3, h4, h5, h6, h7, h8⟩ := one _ h
    exact ⟨g, cap, cur, fz, h1, h2, h3, h4, h5, h6, h7, .inl h8⟩
  · obtain ⟨g, cap, cur, fz, h1, h2, h3, h4, h5, h6, h7, h8⟩ := one _ h
    exact ⟨g, cap, cur, fz, h1, h2, h3, h4, h5, h6, h7, .inr h8⟩
set_option maxHeartbeats 2000000 in
theorem wall_any8 (B b : Nat) (l : List UInt8) (w : World) (h : BW8 B b l w) (h0 : l ≠ []) :
    Calls Try.prog 78 #[.pointer (some ⟨b, 0, none⟩)] w fun e w' => e = .returned (.string (str l)) ∧ WrP8 B b l w w' := by
  obtain ⟨g, cap, cur, fz, k1, k2, k3, k4, k5, k6, k7, k8⟩ := wr_row8 (w := w.drew) h h0
  have hl0 : l.length ≠ 0 := fun e => h0 (List.length_eq_zero_iff.1 e)
  have hSD : (Builtin.unsafeSliceData_ #[54] 108 #[.slice (some ⟨g, 0, none⟩) l.length cap]).run Try.prog w.drew = .ok (.pointer (some ⟨g, 0, none⟩)) w.drew :=
    Lib.run_unsafeSliceData_row _ _ _ _ _ _ (by omega)
  have hUS : (Builtin.unsafeString_ #[108, 3] 9 #[.pointer (some ⟨g, 0, none⟩), .int .i64 l.length]).run Try.prog w.drew = .ok (.string (str l)) (w.drew.freeze ⟨g, 0, none⟩ l.length) :=
    Lib.run_unsafeString_row w.drew 108 3 9 5 Try.underlying108 (by kernel_rfl) g cur.size (by simp [World.shape?, k3]) l h0 (by omega) (by unfold maxLen at k5; omega) k7
  have HW : Hid (WrP8 B b l w (w.drew.freeze ⟨g, 0, none⟩ l.length)) :=
    ⟨k8, Lib.below_freeze (Below.drew (Below.refl B w)) (p := ⟨g, 0, none⟩) k2 l.length, ((Lib.OthersKept.refl 5 (some b) w).drew).freeze ⟨g, 0, none⟩ l.length ⟨cur, fz, k3⟩⟩
  clear h k2 k3 k4 k5 k6 k7 k8
  go_enter Try.func78, Try.ntmps78
  go_wp2
  go_region
  all_goals (go_wp2; go_ret; exact ⟨rfl, HW.out⟩)
end Go.Proofs.Ythggafdfglojaaa
namespace Go.Proofs.Ythggafdfglojaaa
open Go.RowKit
set_option maxRecDepth 100000
/-- a number's byte k -/
def bt8 (n : Int) (k : Nat) : UInt8 := UInt8.ofNat (n / (256 ^ k : Nat) % 256).toNat
def nb8 (n : Int) (k : Nat) : List UInt8 := (List.range k).map (bt8 n)
theorem nb8_len (n : Int) (k : Nat) : (nb8 n k).length = k := by simp [nb8]
theorem nb8_succ (n : Int) (k : Nat) : nb8 n (k + 1) = nb8 n k ++ [bt8 n k] := by unfold nb8; rw [List.range_succ, List.map_append]; rfl
theorem bt8_nat (n : Int) (k : Nat) : ((bt8 n k).toNat : Int) = n / (256 ^ k : Nat) % 256 := by
  unfold bt8
  rw [UInt8.toNat_ofNat']
  have h0 := Int.emod_nonneg (n / (256 ^ k : Nat)) (show (256 : Int) ≠ 0 by decide)
  have h1 := Int.emod_lt_of_pos (n / (256 ^ k : Nat)) (show (0 : Int) < 256 by decide)
  omega
theorem nb8_four (n : Int) : nb8 n 4 = n4 n := by
  have e1 : (256 : Nat) ^ 1 = 256 := by decide
  have e2 : (256 : Nat) ^ 2 = 65536 := by decide
  have e3 : (256 : Nat) ^ 3 = 16777216 := by decide
  show [bt8 n 0, bt8 n 1, bt8 n 2, bt8 n 3] = [_, _, _, _]
  unfold bt8
  rw [Nat.pow_zero, e1, e2, e3]
  have a0 : (n / ((1 : Nat) : Int) % 256).toNat = (n % 4294967296).toNat % 256 := by omega
  have a1 : (n / ((256 : Nat) : Int) % 256).toNat = (n % 4294967296).toNat / 256 % 256 := by omega
  have a2 : (n / ((65536 : Nat) : Int) % 256).toNat = (n % 4294967296).toNat / 65536 % 256 := by omega
  have a3 : (n / ((16777216 : Nat) : Int) % 256).toNat = (n % 4294967296).toNat / 16777216 := by omega
  rw [a0, a1, a2, a3]
theorem bt8_more (n : Int) (k : Nat) : bt8 n (4 + k) = bt8 (n / 4294967296) k := by
  unfold bt8
  have e : ((256 ^ (4 + k) : Nat) : Int) = 4294967296 * ((256 ^ k : Nat) : Int) := by
    rw [Nat.pow_add, Int.natCast_mul]; rfl
  rw [e, ← Int.ediv_ediv_of_nonneg (by decide)]
theorem nb8_eight (n : Int) : nb8 n 8 = n4 n ++ n4 (n / 4294967296) := by
  rw [← nb8_four, ← nb8_four]
  show [_, _, _, _, bt8 n (4 + 0), bt8 n (4 + 1), bt8 n (4 + 2), bt8 n (4 + 3)] = [_, _, _, _, _, _, _, _]
  rw [bt8_more, bt8_more, bt8_more, bt8_more]
theorem wrap_u8_8 (x : Int) : IntKind.u8.wrap x = x % 256 := by
  unfold IntKind.wrap
  simp [IntKind.bits, IntKind.signed]
set_option maxHeartbeats 2000000 in
theorem wnum_any8 (B b : Nat) (l : List UInt8) (n : Int) (k : Nat) (hk : k ≤ 8) (w : World) (h : BW8 B b l w) (hl : l.length ≤ 900000) (hBw : B ≤ w.heap.size) :
    Calls Try.prog 107 #[.pointer (some ⟨b, 0, none⟩), .int .i64 n, .int .i64 k] w fun e w' => e = .returned (.tuple #[]) ∧ WrP8 B b (l ++ nb8 n k) w w' := by
  have HW0 : Hid (WrP8 B b l w w) := ⟨h, Below.refl _ _, Lib.OthersKept.refl _ _ _⟩
  clear h
  go_enter Try.func107, Try.ntmps107
  go_wp2_with fail
  go_loopw [8] (fun i wr => ∃ j : Nat, j ≤ k ∧ i = .int .i64 j ∧ WrP8 B b (l ++ nb8 n j) w wr) (fun i _ => k - (intOf i).toNat)
  case atStart => exact ⟨0, Nat.zero_le _, rfl, by rw [show nb8 n 0 = [] from rfl, List.append_nil]; exact HW0.out⟩
  case round =>
    obtain ⟨j, hj, rfl, hw⟩ := hrel
    have HW := hid hw
    clear hw
    by_cases hlt : j < k
    · have hltI : (j : Int) < (k : Int) := by omega
      have e3 : IntKind.i64.wrap (8 * (j : Int)) = 8 * (j : Int) := IntWalk.i64_in _ ⟨by omega, by omega⟩
      have e5 : ¬ 8 * (j : Int) < 0 := by omega
      have E6 : Hid (IntKind.u8.wrap (n / 2 ^ (8 * (j : Int)).toNat) = ((bt8 n j).toNat : Int)) := by
        show _ = _
        have e7 : (8 * (j : Int)).toNat = 8 * j := by omega
        have e8 : ((256 ^ j : Nat) : Int) = 2 ^ (8 * j) := by rw [Int.natCast_pow, Int.pow_mul]; rfl
        rw [bt8_nat, e8, e7, wrap_u8_8]
      have HS := hid (show B ≤ wr.heap.size from Nat.le_trans hBw (HW.out.2.1.size))
      have HWD : Hid (WrP8 B b (l ++ nb8 n j) w wr.drew) := ⟨HW.out.1, HW.out.2.1.drew, HW.out.2.2.drew⟩
      have HNL := hid (show (l ++ nb8 n j).length ≤ 1000000 by rw [List.length_append, nb8_len]; omega)
      go_upto_region 3 with fail
      refine wp_region_held_drew (S := (fun _ => True)) (by kernel_rfl) ?_ (fun hH0 => ?_)
      · exact trivial
      refine wpAnyH_take (i := 0) (oi := { dst := some 11, op := Go.Op.move (Go.Operand.tmp 0), type := 106, pos := "snap.go:83", after := #[], guard := none }) (v := ?vv1) rfl (by kernel_rfl) (by kernel_rfl) (by kernel_rfl) (fun _ _ _ h => h) (Or.inl ⟨by rfl, ?hy1⟩) (by assumption) ?rr1
      case hy1 => intro w hSw; (try dsimp only at hSw); go_simp; all_goals with_reducible rfl
      try simp only [Act.put, List.setIfInBounds_toArray, List.set_cons_zero, List.set_cons_succ]
      refine wpAnyH_take (i := 1) (oi := { dst := some 12, op := Go.Op.nilCheck (Go.Operand.tmp 11), type := 0, pos := "snap.go:83", after := #[{ on := 0, ground := Go.Ground.data }], guard := none }) (v := ?vv2) rfl (by kernel_rfl) (by kernel_rfl) (by kernel_rfl) (fun _ _ _ h => h) (Or.inl ⟨by rfl, ?hy2⟩) (by assumption) ?rr2
      case hy2 => intro w hSw; (try dsimp only at hSw); go_simp; all_goals with_reducible rfl
      try simp only [Act.put, List.setIfInBounds_toArray, List.set_cons_zero, List.set_cons_succ]
      refine wpAnyH_take (i := 2) (oi := { dst := some 13, op := Go.Op.fieldAddr 83 (Go.Operand.tmp 12) 0, type := 0, pos := "snap.go:83", after := #[{ on := 1, ground := Go.Ground.data }], guard := none }) (v := ?vv3) rfl (by kernel_rfl) (by kernel_rfl) (by kernel_rfl) (fun _ _ _ h => h) (Or.inl ⟨by rfl, ?hy3⟩) (by assumption) ?rr3
      case hy3 => intro w hSw; (try dsimp only at hSw); go_simp; all_goals with_reducible rfl
      try simp only [Act.put, List.setIfInBounds_toArray, List.set_cons_zero, List.set_cons_succ]
      refine wpAnyH_take (i := 3) (oi := { dst := some 14, op := Go.Op.move (Go.Operand.tmp 1), type := 3, pos := "snap.go:83", after := #[], guard := none }) (v := ?vv4) rfl (by kernel_rfl) (by kernel_rfl) (by kernel_rfl) (fun _ _ _ h => h) (Or.inl ⟨by rfl, ?hy4⟩) (by assumption) ?rr4
      case hy4 => intro w hSw; (try dsimp only at hSw); go_simp; all_goals with_reducible rfl
      try simp only [Act.put, List.setIfInBounds_toArray, List.set_cons_zero, List.set_cons_succ]
      refine wpAnyH_take (i := 4) (oi := { dst := some 15, op := Go.Op.move (Go.Operand.tmp 6), type := 3, pos := "snap.go:83", after := #[], guard := none }) (v := ?vv5) rfl (by kernel_rfl) (by kernel_rfl) (by kernel_rfl) (fun _ _ _ h => h) (Or.inl ⟨by rfl, ?hy5⟩) (by assumption) ?rr5
      case hy5 => intro w hSw; (try dsimp only at hSw); go_simp; all_goals with_reducible rfl
      try simp only [Act.put, List.setIfInBounds_toArray, List.set_cons_zero, List.set_cons_succ]
      refine wpAnyH_take (i := 5) (oi := { dst := some 16, op := Go.Op.binOp Go.BinOp.mul 3 (Go.Operand.const (Go.Value.int Go.IntKind.i64 8)) (Go.Operand.tmp 15) 3, type := 3, pos := "snap.go:83", after := #[{ on := 4, ground := Go.Ground.data }], guard := none }) (v := ?vv6) rfl (by kernel_rfl) (by kernel_rfl) (by kernel_rfl) (fun _ _ _ h => h) (Or.inl ⟨by rfl, ?hy6⟩) (by assumption) ?rr6
      case hy6 => intro w hSw; (try dsimp only at hSw); go_simp; all_goals with_reducible rfl
      try simp only [Act.put, List.setIfInBounds_toArray, List.set_cons_zero, List.set_cons_succ]
      refine wpAnyH_take (i := 6) (oi := { dst := some 17, op := Go.Op.binOp Go.BinOp.shr 3 (Go.Operand.tmp 14) (Go.Operand.tmp 16) 3, type := 3, pos := "snap.go:83", after := #[{ on := 3, ground := Go.Ground.data }, { on := 5, ground := Go.Ground.data }], guard := none }) (v := ?vv7) rfl (by kernel_rfl) (by kernel_rfl) (by kernel_rfl) (fun _ _ _ h => h) (Or.inl ⟨by rfl, ?hy7⟩) (by assumption) ?rr7
      case hy7 => intro w hSw; (try dsimp only at hSw); go_simp; all_goals with_reducible rfl
      try simp only [Act.put, List.setIfInBounds_toArray, List.set_cons_zero, List.set_cons_succ]
      refine wpAnyH_take (i := 7) (oi := { dst := some 18, op := Go.Op.convert 3 5 (Go.Operand.tmp 17), type := 5, pos := "snap.go:83", after := #[{ on := 6, ground := Go.Ground.data }], guard := none }) (v := ?vv8) rfl (by kernel_rfl) (by kernel_rfl) (by kernel_rfl) (fun _ _ _ h => h) (Or.inl ⟨by rfl, ?hy8⟩) (by assumption) ?rr8
      case hy8 => intro w hSw; (try dsimp only at hSw); go_simp; all_goals with_reducible rfl
      try simp only [Act.put, List.setIfInBounds_toArray, List.set_cons_zero, List.set_cons_succ]
      refine wpAnyH_ready (rs := [8]) (by kernel_rfl) (by simp) ?_
      refine AllReadyH.cons (i := 8) (o := { dst := some 19, op := Go.Op.call { callee := Go.Callee.value (Go.Operand.func 123), args := #[Go.Operand.tmp 13, Go.Operand.tmp 18], argTypes := #[81, 5] }, type := 85, pos := "snap.go:83", after := #[{ on := 2, ground := Go.Ground.data }, { on := 7, ground := Go.Ground.data }], guard := none }) rfl (fun K hK => ?_) AllReadyH.nil
      go_simp
      go_at_call 123
      rw [E6.out]
      refine (wbyte_any8 B b (l ++ nb8 n j) (bt8 n j) wr.drew HWD.out.1 HNL.out HS.out).mono ?_
      rintro e v1 ⟨rfl, hb⟩
      refine hK.out _ _ ?_ (fun hH1 => ?_)
      · exact trivial
      clear hK K
      try simp only [Act.put, List.setIfInBounds_toArray, List.set_cons_zero, List.set_cons_succ]
      refine wpAnyH_done (by kernel_rfl) ?_ _
      obtain ⟨b1, b2, b3⟩ := hb
      have HN : Hid (WrP8 B b (l ++ nb8 n (j + 1)) w v1) := ⟨by rw [nb8_succ, ← List.append_assoc]; exact b1, HWD.out.2.1.trans b2, HWD.out.2.2.trans b3⟩
      clear b1 b2 b3 E6
      go_wp2_with fail
      go_roundw
      case rel => exact ⟨j + 1, by omega, by go_num, HN.out⟩
      case measure => simp only [intOf]; omega
    · obtain rfl : j = k := by omega
      go_wp2_with fail
      go_end0
      exact ⟨rfl, HW.out⟩
end Go.Proofs.Ythggafdfglojaaa
namespace Go.Proofs.Ythggafdfglojaaa
open Go.RowKit
set_option maxRecDepth 100000
theorem kept_lies8 {b k : Nat} {w w' : World} {t : TypeId} {cs : Array Value} (h : Lib.OthersKept 5 (some b) w w') (hl : Lies w k t cs) (hk : k ≠ b) (ht : t ≠ 5) : Lies w' k t cs :=
  h k _ hl (fun e => hk (by injection e)) (fun c fz e => by injection e with _ e; exact ht e)
theorem WrP8.then_ {B b : Nat} {l m : List UInt8} {w w1 w2 : World} (h : WrP8 B b l w w1) (h2 : WrP8 B b m w1 w2) : WrP8 B b m w w2 := ⟨h2.1, h.2.1.trans h2.2.1, h.2.2.trans h2.2.2⟩
theorem WrP8.size {B b : Nat} {l : List UInt8} {w w1 : World} (h : WrP8 B b l w w1) (hB : B ≤ w.heap.size) : B ≤ w1.heap.size := Nat.le_trans hB h.2.1.size
theorem wword_any8 (B b : Nat) (l : List UInt8) (n : Int) (w : World) (h : BW8 B b l w) (hl : l.length ≤ 900000) (hBw : B ≤ w.heap.size) :
    Calls Try.prog 75 #[.pointer (some ⟨b, 0, none⟩), .int .i64 n] w fun e w' => e = .returned (.tuple #[]) ∧ WrP8 B b (l ++ n4 n) w w' := by
  have H := hid h
  have HB := hid hBw
  clear h hBw
  go_enter Try.func75, Try.ntmps75
  go_wp2_with fail
  refine (wnum_any8 B b l n 4 (by omega) _ H.out hl HB.out).mono ?_
  rintro e w1 ⟨rfl, h1⟩
  rw [nb8_four] at h1
  have H1 := hid h1
  clear h1
  go_wp2_with fail
  go_end0
  exact ⟨rfl, H1.out⟩
set_option maxHeartbeats 2000000 in
theorem wlist_any8 (w0 : World) (b : Nat) (l : List UInt8) (xs : List Int) (A : Option Addr) (c : Nat) (w : World) (h : BW8 w0.heap.size b l w) (hb : Below w0.heap.size w0 w) (hr : IntsR w0 A xs) (hl : l.length ≤ 800000) (hx : xs.length ≤ 1000) :
    Calls Try.prog 77 #[.pointer (some ⟨b, 0, none⟩), .slice A xs.length c] w fun e w' => e = .returned (.tuple #[]) ∧ WrP8 w0.heap.size b (l ++ l4 xs) w w' := by
  have H := hid h
  have HB := hid hb
  have HR := hid hr
  clear h hb hr
  go_enter Try.func77, Try.ntmps77
  go_wp2_with fail
  refine (wword_any8 w0.heap.size b l xs.length _ H.out (by omega) HB.out.size).mono ?_
  rintro e w1 ⟨rfl, h1⟩
  have H1 := hid h1
  clear h1
  go_wp2_with fail
  go_loopw [12] (fun i wr => ∃ k : Nat, k ≤ xs.length ∧ i = .int .i64 k ∧ WrP8 w0.heap.size b ((l ++ n4 xs.length) ++ (xs.take k).flatMap n4) w wr) (fun i _ => xs.length - (intOf i).toNat)
  case atStart => exact ⟨0, Nat.zero_le _, rfl, by rw [List.take_zero, List.flatMap_nil, List.append_nil]; exact H1.out⟩
  case round =>
    obtain ⟨k, hk, rfl, hw⟩ := hrel
    have HW := hid hw
    clear hw
    by_cases hlt : k < xs.length
    · have hltI : (k : Int) < (xs.length : Int) := by omega
      have HBR := hid (HB.out.trans HW.out.2.1)
      obtain ⟨bs, os, rfl, hbs, hcs⟩ := HR.out (by omega)
      have c0 := (HBR.out.cell (p := ⟨bs, os + k, none⟩) hbs).trans (hcs k _ (List.getElem?_eq_getElem hlt))
      have HST := hid (flat_step xs k hlt)
      obtain ⟨y, hy⟩ : ∃ y, y = xs[k]'hlt := ⟨_, rfl⟩
      rw [← hy] at c0 HST
      have HLN := hid (show ((l ++ n4 xs.length) ++ (xs.take k).flatMap n4).length ≤ 900000 by rw [List.length_append, List.length_append, n4_len, flat_len, List.length_take]; omega)
      clear hy hcs
      go_wp2_with fail
      refine (wword_any8 w0.heap.size b _ y _ HW.out.1 HLN.out HBR.out.size).mono ?_
      rintro e w2 ⟨rfl, h2⟩
      have HN : Hid (WrP8 w0.heap.size b ((l ++ n4 xs.length) ++ (xs.take (k + 1)).flatMap n4) w w2) := by
        show WrP8 _ _ _ _ _
        rw [HST.out, ← List.append_assoc]
        exact HW.out.then_ h2
      clear h2
      go_wp2_with fail
      go_roundw
      case rel => exact ⟨k + 1, by omega, by go_num, HN.out⟩
      case measure => simp only [intOf]; omega
    · obtain rfl : k = xs.length := by omega
      go_wp2_with fail
      go_end0
      refine ⟨rfl, ?_⟩
      have := HW.out
      rw [List.take_length, List.append_assoc] at this
      exact this
set_option maxHeartbeats 4000000 in
theorem wobject_any8 (w0 : World) (b : Nat) (l : List UInt8) (o : Ob) (S : Option Addr) (d : Nat) (w : World) (h : BW8 w0.heap.size b l w) (hbw : b < w.heap.size) (hb : Below w0.heap.size w0 w) (hr : IntsR w0 S o.slots) (hl : l.length ≤ 700000) (hx : o.slots.length ≤ 64) (ht : o.text.size ≤ 64) (hk : o.kind = 0 ∨ o.kind = 1 ∨ o.kind = 2) :
    Calls Try.prog 76 #[.pointer (some ⟨b, 0, none⟩), .agg #[.int .i64 o.cls, .int .i64 o.kind, .slice S o.slots.length d, .string o.text, .int .i64 o.bits, .int .i64 o.hash]] w fun e w' => e = .returned (.tuple #[]) ∧ WrP8 w0.heap.size b (l ++ oE o) w w' := by
  obtain ⟨bx, hbx⟩ : ∃ u, u = w.heap.size := ⟨_, rfl⟩
  obtain ⟨v0, hv0⟩ : ∃ u, u = w.alloc (.cells #[.int .i64 o.cls, .int .i64 o.kind, .slice S o.slots.length d, .string o.text, .int .i64 o.bits, .int .i64 o.hash] 46) := ⟨_, rfl⟩
  have HX0 : Hid (Lies v0 bx 46 #[.int .i64 o.cls, .int .i64 o.kind, .slice S o.slots.length d, .string o.text, .int .i64 o.bits, .int .i64 o.hash]) := by show Lies _ _ _ _; rw [hv0, hbx]; exact Lies.new _ _ _
  have HW0 : Hid (WrP8 w0.heap.size b l w v0) := by
    show WrP8 _ _ _ _ _
    rw [hv0]
    exact ⟨h.alloc _, (Below.refl _ w).alloc hb.size _, (Lib.OthersKept.refl _ _ w).alloc _⟩
  have nxb : bx ≠ b := by omega
  have HB := hid hb
  have HR := hid hr
  clear h hb hr
  go_enter Try.func76, Try.ntmps76
  go_upto_region 1 with fail
  rw [← hbx, ← hv0]
  clear hbx hv0
  have x0 := HX0.out.cell 0
  have x1 := HX0.out.cell 1
  have x2 := HX0.out.cell 2
  have x3 := HX0.out.cell 3
  have x4 := HX0.out.cell 4
  have x5 := HX0.out.cell 5
  simp only [List.getElem?_toArray, List.getElem?_cons_zero, List.getElem?_cons_succ] at x0 x1 x2 x3 x4 x5
  go_wp2_with fail
  refine (wword_any8 w0.heap.size b l (o.cls) _ HW0.out.1 (by first | omega | (simp only [List.length_append, n4_len]; omega)) (HW0.out.size HB.out.size)).mono ?_
  rintro e v1 ⟨rfl, h2⟩
  have HW1 := hid (HW0.out.then_ h2)
  have HX1 := hid (kept_lies8 h2.2.2 HX0.out nxb (by decide))
  clear h2
  clear x0 x1 x2 x3 x4 x5
  have x0 := HX1.out.cell 0
  have x1 := HX1.out.cell 1
  have x2 := HX1.out.cell 2
  have x3 := HX1.out.cell 3
  have x4 := HX1.out.cell 4
  have x5 := HX1.out.cell 5
  simp only [List.getElem?_toArray, List.getElem?_cons_zero, List.getElem?_cons_succ] at x0 x1 x2 x3 x4 x5
  go_wp2_with fail
  refine (wword_any8 w0.heap.size b (l ++ n4 o.cls) (o.kind) _ HW1.out.1 (by first | omega | (simp only [List.length_append, n4_len]; omega)) (HW1.out.size HB.out.size)).mono ?_
  rintro e v2 ⟨rfl, h2⟩
  have HW2 := hid (HW1.out.then_ h2)
  have HX2 := hid (kept_lies8 h2.2.2 HX1.out nxb (by decide))
  clear h2
  clear x0 x1 x2 x3 x4 x5
  have x0 := HX2.out.cell 0
  have x1 := HX2.out.cell 1
  have x2 := HX2.out.cell 2
  have x3 := HX2.out.cell 3
  have x4 := HX2.out.cell 4
  have x5 := HX2.out.cell 5
  simp only [List.getElem?_toArray, List.getElem?_cons_zero, List.getElem?_cons_succ] at x0 x1 x2 x3 x4 x5
  go_wp2_with fail
  refine (wword_any8 w0.heap.size b ((l ++ n4 o.cls) ++ n4 o.kind) (o.hash) _ HW2.out.1 (by first | omega | (simp only [List.length_append, n4_len]; omega)) (HW2.out.size HB.out.size)).mono ?_
  rintro e v3 ⟨rfl, h2⟩
  have HW3 := hid (HW2.out.then_ h2)
  have HX3 := hid (kept_lies8 h2.2.2 HX2.out nxb (by decide))
  clear h2
  clear x0 x1 x2 x3 x4 x5
  have x0 := HX3.out.cell 0
  have x1 := HX3.out.cell 1
  have x2 := HX3.out.cell 2
  have x3 := HX3.out.cell 3
  have x4 := HX3.out.cell 4
  have x5 := HX3.out.cell 5
  simp only [List.getElem?_toArray, List.getElem?_cons_zero, List.getElem?_cons_succ] at x0 x1 x2 x3 x4 x5
  obtain ⟨q, hq⟩ : ∃ q, q = (((l ++ n4 o.cls) ++ n4 o.kind) ++ n4 o.hash) := ⟨_, rfl⟩
  rw [← hq] at HW3
  have hql : q.length ≤ 710000 := by rw [hq]; simp only [List.length_append, n4_len]; omega
  have HQ : Hid (l ++ oE o = q ++ (if o.kind = 0 then l4 o.slots else if o.kind = 1 then n4 o.text.size ++ o.text.data.toList else n4 o.bits ++ n4 (o.bits / 4294967296))) := by show _ = _; rw [hq]; unfold oE; simp only [List.append_assoc]
  clear hq
  rcases hk with k0 | k1 | k2
  · have HE : Hid (l ++ oE o = q ++ l4 o.slots) := by show _ = _; rw [HQ.out, if_pos k0]
    have HKK := hid k0
    rw [k0] at x1
    clear k0
    go_wp2_with fail
    refine (wlist_any8 w0 b q o.slots S d _ HW3.out.1 (HB.out.trans HW3.out.2.1) HR.out (by omega) (by omega)).mono ?_
    rintro e v4 ⟨rfl, h2⟩
    have HN := hid (HW3.out.then_ h2)
    clear h2
    go_wp2_with fail
    go_end0
    exact ⟨rfl, by rw [HE.out]; exact HN.out⟩
  · have HE : Hid (l ++ oE o = (q ++ n4 o.text.size) ++ o.text.data.toList) := by show _ = _; rw [HQ.out, if_neg (by omega), if_pos k1, List.append_assoc]
    have HKK := hid k1
    rw [k1] at x1
    have hts : str o.text.data.toList = o.text := str_list _
    have htl : o.text.data.toList.length ≤ 64 := by rw [Array.length_toList]; exact ht
    clear k1
    go_wp2_with fail
    refine (wword_any8 w0.heap.size b q o.text.size _ HW3.out.1 (by omega) (HW3.out.size HB.out.size)).mono ?_
    rintro e v4 ⟨rfl, h2⟩
    have HW4 := hid (HW3.out.then_ h2)
    have HX4 := hid (kept_lies8 h2.2.2 HX3.out nxb (by decide))
    clear h2
    clear x0 x1 x2 x3 x4 x5
    have x3 := HX4.out.cell 3
    simp only [List.getElem?_toArray, List.getElem?_cons_zero, List.getElem?_cons_succ] at x3
    have HWD : Hid (WrP8 w0.heap.size b (q ++ n4 o.text.size) w v4.drew) := ⟨HW4.out.1, HW4.out.2.1.drew, HW4.out.2.2.drew⟩
    go_upto_region 9 with fail
    refine wp_region_held_drew (S := (fun w' => w'.cell? ⟨bx, 3, none⟩ = some (.string o.text))) (by kernel_rfl) ?_ (fun hH0 => ?_)
    · exact x3
    refine wpAnyH_take (i := 0) (oi := { dst := some 31, op := Go.Op.move (Go.Operand.tmp 0), type := 106, pos := "snap.go:105", after := #[], guard := none }) (v := ?vv1) rfl (by kernel_rfl) (by kernel_rfl) (by kernel_rfl) (fun _ _ _ h => h) (Or.inl ⟨by rfl, ?hy1⟩) (by assumption) ?rr1
    case hy1 => intro w hSw; (try dsimp only at hSw); go_simp; all_goals with_reducible rfl
    try simp only [Act.put, List.setIfInBounds_toArray, List.set_cons_zero, List.set_cons_succ]
    refine wpAnyH_take (i := 1) (oi := { dst := some 32, op := Go.Op.nilCheck (Go.Operand.tmp 31), type := 0, pos := "snap.go:105", after := #[{ on := 0, ground := Go.Ground.data }], guard := none }) (v := ?vv2) rfl (by kernel_rfl) (by kernel_rfl) (by kernel_rfl) (fun _ _ _ h => h) (Or.inl ⟨by rfl, ?hy2⟩) (by assumption) ?rr2
    case hy2 => intro w hSw; (try dsimp only at hSw); go_simp; all_goals with_reducible rfl
    try simp only [Act.put, List.setIfInBounds_toArray, List.set_cons_zero, List.set_cons_succ]
    refine wpAnyH_take (i := 2) (oi := { dst := some 33, op := Go.Op.fieldAddr 83 (Go.Operand.tmp 32) 0, type := 0, pos := "snap.go:105", after := #[{ on := 1, ground := Go.Ground.data }], guard := none }) (v := ?vv3) rfl (by kernel_rfl) (by kernel_rfl) (by kernel_rfl) (fun _ _ _ h => h) (Or.inl ⟨by rfl, ?hy3⟩) (by assumption) ?rr3
    case hy3 => intro w hSw; (try dsimp only at hSw); go_simp; all_goals with_reducible rfl
    try simp only [Act.put, List.setIfInBounds_toArray, List.set_cons_zero, List.set_cons_succ]
    refine wpAnyH_take (i := 3) (oi := { dst := some 34, op := Go.Op.fieldAddr 46 (Go.Operand.tmp 3) 3, type := 0, pos := "snap.go:105", after := #[], guard := none }) (v := ?vv4) rfl (by kernel_rfl) (by kernel_rfl) (by kernel_rfl) (fun _ _ _ h => h) (Or.inl ⟨by rfl, ?hy4⟩) (by assumption) ?rr4
    case hy4 => intro w hSw; (try dsimp only at hSw); go_simp; all_goals with_reducible rfl
    try simp only [Act.put, List.setIfInBounds_toArray, List.set_cons_zero, List.set_cons_succ]
    refine wpAnyH_take (i := 4) (oi := { dst := some 35, op := Go.Op.load 9 (Go.Operand.tmp 34), type := 9, pos := "snap.go:105", after := #[{ on := 3, ground := Go.Ground.data }], guard := none }) (v := ?vv5) rfl (by kernel_rfl) (by kernel_rfl) (by kernel_rfl) (fun _ _ _ h => h) (Or.inl ⟨by rfl, ?hy5⟩) (by assumption) ?rr5
    case hy5 => intro w hSw; (try dsimp only at hSw); go_simp; all_goals with_reducible rfl
    try simp only [Act.put, List.setIfInBounds_toArray, List.set_cons_zero, List.set_cons_succ]
    refine wpAnyH_ready (rs := [5]) (by kernel_rfl) (by simp) ?_
    refine AllReadyH.cons (i := 5) (o := { dst := some 36, op := Go.Op.call { callee := Go.Callee.value (Go.Operand.func 74), args := #[Go.Operand.tmp 33, Go.Operand.tmp 35], argTypes := #[81, 9] }, type := 86, pos := "snap.go:105", after := #[{ on := 2, ground := Go.Ground.data }, { on := 4, ground := Go.Ground.data }], guard := none }) rfl (fun K hK => ?_) AllReadyH.nil
    go_simp
    go_at_call 74
    rw [← hts]
    refine (wstr_any8 w0.heap.size b (q ++ n4 o.text.size) o.text.data.toList v4.drew HWD.out.1 (by simp only [List.length_append, n4_len]; omega) (by omega) (HWD.out.size HB.out.size)).mono ?_
    rintro e v5 ⟨rfl, hb⟩
    have HN := hid (HWD.out.then_ hb)
    have X3 := (kept_lies8 hb.2.2 HX4.out.drew nxb (by decide)).cell 3
    simp only [List.getElem?_toArray, List.getElem?_cons_zero, List.getElem?_cons_succ] at X3
    clear hb
    refine hK.out _ _ ?_ (fun hH1 => ?_)
    · exact X3
    clear hK K
    try simp only [Act.put, List.setIfInBounds_toArray, List.set_cons_zero, List.set_cons_succ]
    refine wpAnyH_done (by kernel_rfl) ?_ _
    go_wp2_with fail
    go_end0
    exact ⟨rfl, by rw [HE.out]; exact HN.out⟩
  · have HE : Hid (l ++ oE o = q ++ nb8 o.bits 8) := by show _ = _; rw [HQ.out, if_neg (by omega), if_neg (by omega), nb8_eight]
    have HKK := hid k2
    rw [k2] at x1
    clear k2
    go_wp2_with fail
    refine (wnum_any8 w0.heap.size b q o.bits 8 (by omega) _ HW3.out.1 (by omega) (HW3.out.size HB.out.size)).mono ?_
    rintro e v4 ⟨rfl, h2⟩
    have HN := hid (HW3.out.then_ h2)
    clear h2
    go_wp2_with fail
    go_end0
    exact ⟨rfl, by rw [HE.out]; exact HN.out⟩
end Go.Proofs.Ythggafdfglojaaa
