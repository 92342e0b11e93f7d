/- The variables that the program reads, as they are laid; the library's words that read them: a number's text, a text cut in two, a text's number. -/
import Derived.Test.YtobelbaeaamkkaaDoorTE11
import Derived.Test.YtobelbaeaamkkaaDoorTD11
import Derived.Test.YtobelbaeaamkkaaDoorDG11
import Derived.Lib.AppendIntMem
import Derived.Lib.LaidTab
import Derived.Stop.LaidErr
namespace Go.Proofs.YtobelbaeaamkkaaDoor
open Go.RowKit
set_option maxRecDepth 100000
/-- the words of Ops, in the program's variable -/
def wrdV : Array Value := (wds11.map fun l => Value.string (str l)).toArray
/-- the variables that the program reads -/
structure Vr11 (w : World) : Prop where
  words : w.var? Tryd.prog "anamnesis/code.words" = some wrdV
  tab : Lib.TabIs Tryd.prog w "internal/strconv.uint64pow10" .u64 Lib.pow10Tab
  syn : ∃ tp p, w.var? Tryd.prog "strconv.ErrSyntax" = some #[.iface tp p]
  rng : ∃ tp p, w.var? Tryd.prog "strconv.ErrRange" = some #[.iface tp p]
  mx : ∃ m, w.cell? ⟨1, 0, none⟩ = some (.int .i64 m)
theorem var_later11 {P : Program} {w w' : World} {n : String} {cs : Array Value} (h : w.var? P n = some cs) (hb : Below w.heap.size w w') : w'.var? P n = some cs := by
  unfold World.var? at h ⊢
  cases hg : P.globalNamed n with
  | none => rw [hg] at h; cases h
  | some g =>
    rw [hg] at h
    simp only [Option.bind_some] at h ⊢
    have hlt : g < w.heap.size := by
      rcases Nat.lt_or_ge g w.heap.size with h' | h'
      · exact h'
      · rw [Array.getElem?_eq_none h'] at h; cases h
    rw [hb.block g hlt]
    exact h
theorem Vr11.later {w w' : World} (h : Vr11 w) (hb : Below w.heap.size w w') : Vr11 w' where
  words := var_later11 h.words hb
  tab := var_later11 h.tab hb
  syn := by obtain ⟨t, p, e⟩ := h.syn; exact ⟨t, p, var_later11 e hb⟩
  rng := by obtain ⟨t, p, e⟩ := h.rng; exact ⟨t, p, var_later11 e hb⟩
  mx := by obtain ⟨m, e⟩ := h.mx; exact ⟨m, cell_later hb e⟩
theorem Vr11.below {w w' : World} (h : Vr11 w) (hb : Below w.heap.size w w') : Vr11 w' := h.later hb
theorem gWords11 : Tryd.prog.globalNamed "anamnesis/code.words" = some 0 := by kernel_rfl
/-- a word, read in the variable -/
theorem Vr11.word {w : World} (h : Vr11 w) (k : Nat) (hk : k < 19) : w.cell? ⟨0, k, none⟩ = some (.string (str (wd11 k))) := by
  have := World.var?_cell gWords11 h.words k
  rw [this]
  have e : wrdV[k]? = (wds11[k]?).map fun l => Value.string (str l) := by unfold wrdV; rw [List.getElem?_toArray, List.getElem?_map]
  have hl : k < wds11.length := hk
  rw [e, List.getElem?_eq_getElem hl]
  show some _ = some (Value.string (str (wds11.getD ((k : Int)).toNat [])))
  rw [Int.toNat_natCast, List.getD_eq_getElem?_getD, List.getElem?_eq_getElem hl]
  rfl
theorem itoa_dg11 {n : Int} (h0 : 0 ≤ n) (h1 : n < 1000) : (⟨(Lib.itoa n).toArray⟩ : ByteArray) = str (dg11 n) := by
  rw [← dg11_is h0 h1]
  unfold Lib.itoa
  rw [if_neg (by omega)]
  rfl
theorem itoa_any11 (n : Int) (h0 : 0 ≤ n) (h1 : n < 1000) (w : World) (hv : Vr11 w) :
    Calls Tryd.prog 41 #[.int .i64 n] w fun e w' => e = .returned (.string (str (dg11 n))) ∧ Below w.heap.size w w' := by
  rw [← itoa_dg11 h0 h1]
  exact (Tryd.strconv_Itoa n (by omega) (by omega) w hv.tab).mono fun _ _ ⟨he, k, os, hw⟩ => ⟨he, by rw [hw]; exact Lib.below_grow w.heap.size w (Nat.le_refl _) k os⟩
theorem below_drewN11 (w : World) (n : Nat) : Below w.heap.size w (w.drewN n) := ⟨rfl, rfl, rfl, Nat.le_refl _, fun _ _ => rfl⟩
theorem cut_any11 (s : List UInt8) (c : UInt8) (hs : s.length ≤ 1000000) (w : World) (hv : Vr11 w) :
    Calls Tryd.prog 45 #[.string (str s), .string (str [c])] w fun e w' => e = .returned (.tuple #[.string (str (ct11 c s).1), .string (str (ct11 c s).2.1), .bool (ct11 c s).2.2]) ∧ Below w.heap.size w w' := by
  obtain ⟨m, hm⟩ := hv.mx
  have h := Tryd.strings_Cut (str s) (str [c]) m w (by rw [str_size]; omega) hm
  rw [list_str, list_str, ct_is11] at h
  exact h.mono fun _ _ ⟨he, n, hw⟩ => ⟨he, by rw [hw]; exact below_drewN11 w n⟩
/-- a text's number, of at most eight bits -/
def NuP11 (s : List UInt8) (w : World) (e : Ending) (w' : World) : Prop := (∃ (u : Nat) (v : Value), e = .returned (.tuple #[.int .u64 u, v]) ∧ (u : Int) = nm11 s) ∧ Below w.heap.size w w'
theorem puint_any11 (s : List UInt8) (hs : s.length ≤ 1000000) (w : World) (hv : Vr11 w) :
    Calls Tryd.prog 55 #[.string (str s), .int .i64 10, .int .i64 8] w (NuP11 s w) := by
  have hsz := str_size s
  rcases hp : Lib.parseUintB 8 s with u | _ | _
  · refine (Any.strconv_ParseUint_10_at8_ok Tryd.laysPu14 (str s) (by omega) u (by rw [list_str]; exact hp) w).mono ?_
    rintro e w' ⟨rfl, hw⟩
    refine ⟨⟨u, _, rfl, by unfold nm11; rw [hp]⟩, ?_⟩
    rcases hw with rfl | rfl
    · exact Below.refl _ _
    · exact Lib.below_freeze ((Below.refl _ w).drew.alloc (Nat.le_refl _) _) (p := ⟨w.heap.size, _, none⟩) (Nat.le_refl _) 1
  · obtain ⟨tp, p, h⟩ := hv.syn
    refine (Any.strconv_ParseUint_10_at8_syntax_var Tryd.laysPu14 (str s) (by omega) (by rw [list_str]; exact hp) tp p w h).mono ?_
    rintro e w' ⟨N, rfl, -, -, hb⟩
    exact ⟨⟨0, _, rfl, by unfold nm11; rw [hp]; rfl⟩, hb⟩
  · obtain ⟨tp, p, h⟩ := hv.rng
    refine (Any.strconv_ParseUint_10_at8_range_var Tryd.laysPu14 (str s) (by omega) (by rw [list_str]; exact hp) tp p w h).mono ?_
    rintro e w' ⟨N, rfl, -, -, hb⟩
    exact ⟨⟨255, _, rfl, by unfold nm11; rw [hp]; rfl⟩, hb⟩
theorem number_any11 (s : List UInt8) (hs : s.length ≤ 1000000) (w : World) (hv : Vr11 w) :
    Calls Tryd.prog 52 #[.string (str s)] w fun e w' => e = .returned (.int .i64 (nm11 s)) ∧ Below w.heap.size w w' := by
  have hbd := nm_bd11 s
  go_enter Tryd.func52, Tryd.ntmps52
  go_wp2_with fail
  refine (puint_any11 s hs _ hv).mono ?_
  rintro e w1 ⟨⟨u, v, rfl, hu⟩, hb⟩
  have hwu : IntKind.i64.wrap (u : Int) = (u : Int) := IntWalk.i64_in _ ⟨by omega, by omega⟩
  have HU := hid hu
  clear hbd hu
  go_wp2_with fail
  go_ret
  exact ⟨by rw [← HU.out]; rfl, hb⟩
end Go.Proofs.YtobelbaeaamkkaaDoor
