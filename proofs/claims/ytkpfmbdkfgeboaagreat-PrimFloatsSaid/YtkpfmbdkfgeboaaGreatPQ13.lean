/- Each primitive, by its number. -/
import Derived.Test.YtkpfmbdkfgeboaaGreatPO13
import Derived.Test.YtkpfmbdkfgeboaaGreatPM13
import Derived.Test.YtkpfmbdkfgeboaaGreatPD13
namespace Go.Proofs.YtkpfmbdkfgeboaaGreat
open Go.RowKit Flt
set_option maxRecDepth 100000
/-- what is known of a function that the table tells -/
def Fn13 (w : World) (b : Nat) (h : Hp) (A : Option Addr) (c : Nat) (s : Int) (args : List Int) (SA : Option Addr) (da : Nat) (k : Nat) (K : Nat) (cap : Array Value) : Prop :=
  (cap = #[] ∧ Calls Tryz.prog K #[.pointer (some ⟨b, 0, none⟩)] w (Po13 w b h A c s args.length SA da (pr13 h k s (args.getD 0 0) (args.getD 1 0)))) ∨
  ∃ kb, cap = #[.pointer (some ⟨kb, 0, none⟩)] ∧ Calls Tryz.prog K #[.pointer (some ⟨b, 0, none⟩), .pointer (some ⟨kb, 0, none⟩)] w (Po13 w b h A c s args.length SA da (pr13 h k s (args.getD 0 0) (args.getD 1 0)))
theorem row13 (k : Nat) (h1 : 1 ≤ k) (h27 : k ≤ 27) (n : Nat) : ∃ (na K : Nat) (cap : Array Value), ar13 k = some na ∧ (tb13 n)[2 * k]? = some (.int .i64 (na : Int)) ∧ (tb13 n)[2 * k + 1]? = some (.func (.func K) #[] cap) ∧ (∀ args w, (callFunc K args).run Tryz.prog w = .ok (.enter K args) w) ∧
    ∀ (b base : Nat) (h : Hp) (A : Option Addr) (c : Nat) (s : Int) (args : List Int) (SA : Option Addr) (da : Nat) (w : World) (I : In13 w b base h A c s args SA da), args.length = na → (∀ (j : Nat) (v : Value), kv13[j]? = some v → w.cell? ⟨n + j, 0, none⟩ = some v) → b < n → Fn13 w b h A c s args SA da k K cap := by
  obtain rfl | rfl | rfl | rfl | rfl | rfl | rfl | rfl | rfl | rfl | rfl | rfl | rfl | rfl | rfl | rfl | rfl | rfl | rfl | rfl | rfl | rfl | rfl | rfl | rfl | rfl | rfl : k = 1 ∨ k = 2 ∨ k = 3 ∨ k = 4 ∨ k = 5 ∨ k = 6 ∨ k = 7 ∨ k = 8 ∨ k = 9 ∨ k = 10 ∨ k = 11 ∨ k = 12 ∨ k = 13 ∨ k = 14 ∨ k = 15 ∨ k = 16 ∨ k = 17 ∨ k = 18 ∨ k = 19 ∨ k = 20 ∨ k = 21 ∨ k = 22 ∨ k = 23 ∨ k = 24 ∨ k = 25 ∨ k = 26 ∨ k = 27 := by omega
  · refine ⟨1, 125, #[.pointer (some ⟨n + 0, 0, none⟩)], by decide, rfl, rfl, enters_of Tryz.func125 (by kernel_rfl) rfl, fun b base h A c s args SA da w I hl hkv hbn => .inr ⟨n + 0, rfl, ?_⟩⟩
    have e := ofadd_any13 b base h A c s args SA da w I (by omega) (n + 0) (hkv 0 _ rfl) (by omega)
    exact e.mono fun e9 w9 h9 => by
      have eq : pr13 h ((1 : Nat) : Int) s (args.getD 0 0) (args.getD 1 0) = (if nB s = false ∨ nB (args.getD 0 0) = false then fa13 h else in13 h (nV s + nV (args.getD 0 0))) := by rfl
      rw [eq]; exact h9
  · refine ⟨1, 125, #[.pointer (some ⟨n + 1, 0, none⟩)], by decide, rfl, rfl, enters_of Tryz.func125 (by kernel_rfl) rfl, fun b base h A c s args SA da w I hl hkv hbn => .inr ⟨n + 1, rfl, ?_⟩⟩
    have e := ofsub_any13 b base h A c s args SA da w I (by omega) (n + 1) (hkv 1 _ rfl) (by omega)
    exact e.mono fun e9 w9 h9 => by
      have eq : pr13 h ((2 : Nat) : Int) s (args.getD 0 0) (args.getD 1 0) = (if nB s = false ∨ nB (args.getD 0 0) = false then fa13 h else in13 h (nV s - nV (args.getD 0 0))) := by rfl
      rw [eq]; exact h9
  · refine ⟨1, 125, #[.pointer (some ⟨n + 2, 0, none⟩)], by decide, rfl, rfl, enters_of Tryz.func125 (by kernel_rfl) rfl, fun b base h A c s args SA da w I hl hkv hbn => .inr ⟨n + 2, rfl, ?_⟩⟩
    have e := ofmul_any13 b base h A c s args SA da w I (by omega) (n + 2) (hkv 2 _ rfl) (by omega)
    exact e.mono fun e9 w9 h9 => by
      have eq : pr13 h ((3 : Nat) : Int) s (args.getD 0 0) (args.getD 1 0) = (if nB s = false ∨ nB (args.getD 0 0) = false then fa13 h else in13 h (nV s * nV (args.getD 0 0))) := by rfl
      rw [eq]; exact h9
  · refine ⟨1, 125, #[.pointer (some ⟨n + 3, 0, none⟩)], by decide, rfl, rfl, enters_of Tryz.func125 (by kernel_rfl) rfl, fun b base h A c s args SA da w I hl hkv hbn => .inr ⟨n + 3, rfl, ?_⟩⟩
    have e := ofquo_any13 b base h A c s args SA da w I (by omega) (n + 3) (hkv 3 _ rfl) (by omega)
    exact e.mono fun e9 w9 h9 => by
      have eq : pr13 h ((4 : Nat) : Int) s (args.getD 0 0) (args.getD 1 0) = (if nB s = false ∨ nB (args.getD 0 0) = false then fa13 h else if nV (args.getD 0 0) = 0 then fa13 h else in13 h ((nV s).fdiv (nV (args.getD 0 0)))) := by rfl
      rw [eq]; exact h9
  · refine ⟨1, 125, #[.pointer (some ⟨n + 4, 0, none⟩)], by decide, rfl, rfl, enters_of Tryz.func125 (by kernel_rfl) rfl, fun b base h A c s args SA da w I hl hkv hbn => .inr ⟨n + 4, rfl, ?_⟩⟩
    have e := ofrest_any13 b base h A c s args SA da w I (by omega) (n + 4) (hkv 4 _ rfl) (by omega)
    exact e.mono fun e9 w9 h9 => by
      have eq : pr13 h ((5 : Nat) : Int) s (args.getD 0 0) (args.getD 1 0) = (if nB s = false ∨ nB (args.getD 0 0) = false then fa13 h else if nV (args.getD 0 0) = 0 then fa13 h else in13 h (nV s - nV (args.getD 0 0) * (nV s).fdiv (nV (args.getD 0 0)))) := by rfl
      rw [eq]; exact h9
  · refine ⟨1, 100, #[], by decide, rfl, rfl, enters_of Tryz.func100 (by kernel_rfl) rfl, fun b base h A c s args SA da w I hl hkv hbn => .inl ⟨rfl, ?_⟩⟩
    have e := below_any13 b base h A c s args SA da w I (by omega)
    exact e.mono fun e9 w9 h9 => by
      have eq : pr13 h ((6 : Nat) : Int) s (args.getD 0 0) (args.getD 1 0) = (if nB s = false ∨ nB (args.getD 0 0) = false then fa13 h else tr13 h (decide (nV s < nV (args.getD 0 0)))) := by rfl
      rw [eq]; exact h9
  · refine ⟨1, 101, #[], by decide, rfl, rfl, enters_of Tryz.func101 (by kernel_rfl) rfl, fun b base h A c s args SA da w I hl hkv hbn => .inl ⟨rfl, ?_⟩⟩
    have e := equal_any13 b base h A c s args SA da w I (by omega)
    exact e.mono fun e9 w9 h9 => by
      have eq : pr13 h ((7 : Nat) : Int) s (args.getD 0 0) (args.getD 1 0) = (if nB s = false ∨ nB (args.getD 0 0) = false then fa13 h else tr13 h (decide (nV s = nV (args.getD 0 0)))) := by rfl
      rw [eq]; exact h9
  · refine ⟨1, 102, #[], by decide, rfl, rfl, enters_of Tryz.func102 (by kernel_rfl) rfl, fun b base h A c s args SA da w I hl hkv hbn => .inl ⟨rfl, ?_⟩⟩
    have e := slot_any13 b base h A c s args SA da w I (by omega)
    exact e.mono fun e9 w9 h9 => by
      have eq : pr13 h ((8 : Nat) : Int) s (args.getD 0 0) (args.getD 1 0) = (if nB (args.getD 0 0) = false then fa13 h else if plE h s 0 (nV (args.getD 0 0) - 1) ≠ 0 then fa13 h else (h, geV h s (nV (args.getD 0 0) - 1), 0)) := by rfl
      rw [eq]; exact h9
  · refine ⟨2, 103, #[], by decide, rfl, rfl, enters_of Tryz.func103 (by kernel_rfl) rfl, fun b base h A c s args SA da w I hl hkv hbn => .inl ⟨rfl, ?_⟩⟩
    have e := setslot_any13 b base h A c s args SA da w I (by omega)
    exact e.mono fun e9 w9 h9 => by
      have eq : pr13 h ((9 : Nat) : Int) s (args.getD 0 0) (args.getD 1 0) = (if nB (args.getD 0 0) = false then fa13 h else if setE h s (nV (args.getD 0 0) - 1) (args.getD 1 0) ≠ 0 then fa13 h else (setR h s (nV (args.getD 0 0) - 1) (args.getD 1 0), (args.getD 1 0), 0)) := by rfl
      rw [eq]; exact h9
  · refine ⟨0, 104, #[], by decide, rfl, rfl, enters_of Tryz.func104 (by kernel_rfl) rfl, fun b base h A c s args SA da w I hl hkv hbn => .inl ⟨rfl, ?_⟩⟩
    have e := size_any13 b base h A c s args SA da w I
    exact e.mono fun e9 w9 h9 => by
      have eq : pr13 h ((10 : Nat) : Int) s (args.getD 0 0) (args.getD 1 0) = (if refB h.objs.length s = false ∨ (obAt h s).kind = 2 then fa13 h else in13 h ((obAt h s).slots.length + (obAt h s).text.size)) := by rfl
      rw [eq]; exact h9
  · refine ⟨0, 105, #[], by decide, rfl, rfl, enters_of Tryz.func105 (by kernel_rfl) rfl, fun b base h A c s args SA da w I hl hkv hbn => .inl ⟨rfl, ?_⟩⟩
    have e := instance_any13 b base h A c s args SA da w I
    exact e.mono fun e9 w9 h9 => by
      have eq : pr13 h ((11 : Nat) : Int) s (args.getD 0 0) (args.getD 1 0) = (if clB9 h s = false then fa13 h else al13 h s 0 (nV (sl9 h s 2))) := by rfl
      rw [eq]; exact h9
  · refine ⟨1, 137, #[.pointer (some ⟨n + 5, 0, none⟩)], by decide, rfl, rfl, enters_of Tryz.func137 (by kernel_rfl) rfl, fun b base h A c s args SA da w I hl hkv hbn => .inr ⟨n + 5, rfl, ?_⟩⟩
    have e := instanceof_any13 b base h A c s args SA da w I (by omega) (n + 5) 0 (hkv 5 _ rfl) (by omega)
    exact e.mono fun e9 w9 h9 => by
      have eq : pr13 h ((12 : Nat) : Int) s (args.getD 0 0) (args.getD 1 0) = (if clB9 h s = false then fa13 h else if nB (args.getD 0 0) = false then fa13 h else al13 h s 0 (nV (args.getD 0 0))) := by rfl
      rw [eq]; exact h9
  · refine ⟨0, 107, #[], by decide, rfl, rfl, enters_of Tryz.func107 (by kernel_rfl) rfl, fun b base h A c s args SA da w I hl hkv hbn => .inl ⟨rfl, ?_⟩⟩
    have e := class_any13 b base h A c s args SA da w I
    exact e.mono fun e9 w9 h9 => by
      have eq : pr13 h ((13 : Nat) : Int) s (args.getD 0 0) (args.getD 1 0) = ((h, (lf9 h s).1, 0)) := by rfl
      rw [eq]; exact h9
  · refine ⟨1, 108, #[], by decide, rfl, rfl, enters_of Tryz.func108 (by kernel_rfl) rfl, fun b base h A c s args SA da w I hl hkv hbn => .inl ⟨rfl, ?_⟩⟩
    have e := same_any13 b base h A c s args SA da w I (by omega)
    exact e.mono fun e9 w9 h9 => by
      have eq : pr13 h ((14 : Nat) : Int) s (args.getD 0 0) (args.getD 1 0) = (tr13 h (decide (s = (args.getD 0 0)))) := by rfl
      rw [eq]; exact h9
  · refine ⟨0, 109, #[], by decide, rfl, rfl, enters_of Tryz.func109 (by kernel_rfl) rfl, fun b base h A c s args SA da w I hl hkv hbn => .inl ⟨rfl, ?_⟩⟩
    have e := hash_any13 b base h A c s args SA da w I
    exact e.mono fun e9 w9 h9 => by
      have eq : pr13 h ((15 : Nat) : Int) s (args.getD 0 0) (args.getD 1 0) = (if nB s then (h, s, 0) else in13 h (obAt h s).hash) := by rfl
      rw [eq]; exact h9
  · refine ⟨1, 110, #[], by decide, rfl, rfl, enters_of Tryz.func110 (by kernel_rfl) rfl, fun b base h A c s args SA da w I hl hkv hbn => .inl ⟨rfl, ?_⟩⟩
    have e := become_any13 b base h A c s args SA da w I (by omega)
    exact e.mono fun e9 w9 h9 => by
      have eq : pr13 h ((16 : Nat) : Int) s (args.getD 0 0) (args.getD 1 0) = (if atB s = false ∨ atV s < 12 ∨ atB (args.getD 0 0) = false ∨ atV (args.getD 0 0) < 12 then fa13 h else (beR h s (args.getD 0 0), s, 0)) := by rfl
      rw [eq]; exact h9
  · refine ⟨1, 141, #[.pointer (some ⟨n + 6, 0, none⟩)], by decide, rfl, rfl, enters_of Tryz.func141 (by kernel_rfl) rfl, fun b base h A c s args SA da w I hl hkv hbn => .inr ⟨n + 6, rfl, ?_⟩⟩
    have e := offloats_any13 b base h A c s args SA da w I (by omega) (n + 6) 0 (hkv 6 _ rfl) (by omega)
    exact e.mono fun e9 w9 h9 => by
      have eq : pr13 h ((17 : Nat) : Int) s (args.getD 0 0) (args.getD 1 0) = (match fl13 h s with | none => fa13 h | some x => match fl13 h (args.getD 0 0) with | none => fa13 h | some y => nf13 h (fOp 0 x y)) := by rfl
      rw [eq]; exact h9
  · refine ⟨1, 141, #[.pointer (some ⟨n + 7, 0, none⟩)], by decide, rfl, rfl, enters_of Tryz.func141 (by kernel_rfl) rfl, fun b base h A c s args SA da w I hl hkv hbn => .inr ⟨n + 7, rfl, ?_⟩⟩
    have e := offloats_any13 b base h A c s args SA da w I (by omega) (n + 7) 1 (hkv 7 _ rfl) (by omega)
    exact e.mono fun e9 w9 h9 => by
      have eq : pr13 h ((18 : Nat) : Int) s (args.getD 0 0) (args.getD 1 0) = (match fl13 h s with | none => fa13 h | some x => match fl13 h (args.getD 0 0) with | none => fa13 h | some y => nf13 h (fOp 1 x y)) := by rfl
      rw [eq]; exact h9
  · refine ⟨1, 141, #[.pointer (some ⟨n + 8, 0, none⟩)], by decide, rfl, rfl, enters_of Tryz.func141 (by kernel_rfl) rfl, fun b base h A c s args SA da w I hl hkv hbn => .inr ⟨n + 8, rfl, ?_⟩⟩
    have e := offloats_any13 b base h A c s args SA da w I (by omega) (n + 8) 2 (hkv 8 _ rfl) (by omega)
    exact e.mono fun e9 w9 h9 => by
      have eq : pr13 h ((19 : Nat) : Int) s (args.getD 0 0) (args.getD 1 0) = (match fl13 h s with | none => fa13 h | some x => match fl13 h (args.getD 0 0) with | none => fa13 h | some y => nf13 h (fOp 2 x y)) := by rfl
      rw [eq]; exact h9
  · refine ⟨1, 141, #[.pointer (some ⟨n + 9, 0, none⟩)], by decide, rfl, rfl, enters_of Tryz.func141 (by kernel_rfl) rfl, fun b base h A c s args SA da w I hl hkv hbn => .inr ⟨n + 9, rfl, ?_⟩⟩
    have e := offloats_any13 b base h A c s args SA da w I (by omega) (n + 9) 3 (hkv 9 _ rfl) (by omega)
    exact e.mono fun e9 w9 h9 => by
      have eq : pr13 h ((20 : Nat) : Int) s (args.getD 0 0) (args.getD 1 0) = (match fl13 h s with | none => fa13 h | some x => match fl13 h (args.getD 0 0) with | none => fa13 h | some y => nf13 h (fOp 3 x y)) := by rfl
      rw [eq]; exact h9
  · refine ⟨1, 145, #[.pointer (some ⟨n + 10, 0, none⟩)], by decide, rfl, rfl, enters_of Tryz.func145 (by kernel_rfl) rfl, fun b base h A c s args SA da w I hl hkv hbn => .inr ⟨n + 10, rfl, ?_⟩⟩
    have e := cmpless_any13 b base h A c s args SA da w I (by omega) (n + 10) (hkv 10 _ rfl) (by omega)
    exact e.mono fun e9 w9 h9 => by
      have eq : pr13 h ((21 : Nat) : Int) s (args.getD 0 0) (args.getD 1 0) = (match fl13 h s with | none => fa13 h | some x => match fl13 h (args.getD 0 0) with | none => fa13 h | some y => tr13 h (fLess x y)) := by rfl
      rw [eq]; exact h9
  · refine ⟨1, 145, #[.pointer (some ⟨n + 11, 0, none⟩)], by decide, rfl, rfl, enters_of Tryz.func145 (by kernel_rfl) rfl, fun b base h A c s args SA da w I hl hkv hbn => .inr ⟨n + 11, rfl, ?_⟩⟩
    have e := cmpeq_any13 b base h A c s args SA da w I (by omega) (n + 11) (hkv 11 _ rfl) (by omega)
    exact e.mono fun e9 w9 h9 => by
      have eq : pr13 h ((22 : Nat) : Int) s (args.getD 0 0) (args.getD 1 0) = (match fl13 h s with | none => fa13 h | some x => match fl13 h (args.getD 0 0) with | none => fa13 h | some y => tr13 h (fEqual x y)) := by rfl
      rw [eq]; exact h9
  · refine ⟨0, 115, #[], by decide, rfl, rfl, enters_of Tryz.func115 (by kernel_rfl) rfl, fun b base h A c s args SA da w I hl hkv hbn => .inl ⟨rfl, ?_⟩⟩
    have e := trunc_any13 b base h A c s args SA da w I
    exact e.mono fun e9 w9 h9 => by
      have eq : pr13 h ((23 : Nat) : Int) s (args.getD 0 0) (args.getD 1 0) = (match fl13 h s with | none => fa13 h | some x => if tb x then in13 h (fTr x) else fa13 h) := by rfl
      rw [eq]; exact h9
  · refine ⟨0, 116, #[], by decide, rfl, rfl, enters_of Tryz.func116 (by kernel_rfl) rfl, fun b base h A c s args SA da w I hl hkv hbn => .inl ⟨rfl, ?_⟩⟩
    have e := float_any13 b base h A c s args SA da w I
    exact e.mono fun e9 w9 h9 => by
      have eq : pr13 h ((24 : Nat) : Int) s (args.getD 0 0) (args.getD 1 0) = (match fl13 h s with | none => fa13 h | some x => nf13 h x) := by rfl
      rw [eq]; exact h9
  · refine ⟨1, 117, #[], by decide, rfl, rfl, enters_of Tryz.func117 (by kernel_rfl) rfl, fun b base h A c s args SA da w I hl hkv hbn => .inl ⟨rfl, ?_⟩⟩
    have e := byteat_any13 b base h A c s args SA da w I (by omega)
    exact e.mono fun e9 w9 h9 => by
      have eq : pr13 h ((25 : Nat) : Int) s (args.getD 0 0) (args.getD 1 0) = (if nB (args.getD 0 0) = false then fa13 h else if plE h s 1 (nV (args.getD 0 0) - 1) ≠ 0 then fa13 h else in13 h (byV h s (nV (args.getD 0 0) - 1))) := by rfl
      rw [eq]; exact h9
  · refine ⟨2, 118, #[], by decide, rfl, rfl, enters_of Tryz.func118 (by kernel_rfl) rfl, fun b base h A c s args SA da w I hl hkv hbn => .inl ⟨rfl, ?_⟩⟩
    have e := setbyte_any13 b base h A c s args SA da w I (by omega)
    exact e.mono fun e9 w9 h9 => by
      have eq : pr13 h ((26 : Nat) : Int) s (args.getD 0 0) (args.getD 1 0) = (if nB (args.getD 0 0) = false then fa13 h else if nB (args.getD 1 0) = false ∨ sbE h s (nV (args.getD 0 0) - 1) (nV (args.getD 1 0)) ≠ 0 then fa13 h else (sbR h s (nV (args.getD 0 0) - 1) (nV (args.getD 1 0)), (args.getD 1 0), 0)) := by rfl
      rw [eq]; exact h9
  · refine ⟨1, 137, #[.pointer (some ⟨n + 12, 0, none⟩)], by decide, rfl, rfl, enters_of Tryz.func137 (by kernel_rfl) rfl, fun b base h A c s args SA da w I hl hkv hbn => .inr ⟨n + 12, rfl, ?_⟩⟩
    have e := instanceof_any13 b base h A c s args SA da w I (by omega) (n + 12) 1 (hkv 12 _ rfl) (by omega)
    exact e.mono fun e9 w9 h9 => by
      have eq : pr13 h ((27 : Nat) : Int) s (args.getD 0 0) (args.getD 1 0) = (if clB9 h s = false then fa13 h else if nB (args.getD 0 0) = false then fa13 h else al13 h s 1 (nV (args.getD 0 0))) := by rfl
      rw [eq]; exact h9
end Go.Proofs.YtkpfmbdkfgeboaaGreat
