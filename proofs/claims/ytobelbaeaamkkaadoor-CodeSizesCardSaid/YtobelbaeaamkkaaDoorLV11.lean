/- What the row says of the listed variables is what the walks lean on. -/
import Derived.Test.YtobelbaeaamkkaaDoorRows
import Derived.Test.YtobelbaeaamkkaaDoorTF11
import Derived.ProofKit
import Derived.OpenShut
import Derived.LaidMore
import Derived.Lib.LaidTab
import Derived.Stop.LaidErr
import Derived.Shelf.Vars
namespace Go.Proofs.YtobelbaeaamkkaaDoor
open Go.RowKit Go.Lib
set_option maxRecDepth 100000
theorem cells_words11 {H : Type} {enc : TypeId × Value → H} {P : Program} {w : World} {base : Nat} {sp : Nat → Bool} {held : Bool} {fuel : Nat} {t e : TypeId} {n : Nat} {cs : List Value} {ws : List (List UInt8)} {p : List MemPlace}
    (ht : P.underlying t = some (.array n e)) (he : P.underlying e = some .string) (hce : P.cellsOf e = 1) (hct : P.cellsOf t = n)
    (h : DataW.trod enc P w base sp held fuel t cs = some (.agg (ws.map fun l => .lit (.string l)), p)) : cs = ws.map fun l => Value.string (str l) := by
  cases fuel with
  | zero => simp [DataW.trod] at h
  | succ fuel =>
    simp only [DataW.trod, ht, hce, hct, Nat.mul_one] at h
    split at h
    · rename_i hl
      obtain ⟨xs, hm, hx⟩ := Option.map_eq_some_iff.1 h
      have hxs : xs.map (·.1) = ws.map fun l => (DataW.lit (.string l) : DataW H) := by
        have := congrArg Prod.fst hx
        simpa using this
      have hxl : xs.length = n := by simpa using Lib.mapM_length hm
      have hzl : ws.length = n := by
        have := congrArg List.length hxs
        simp at this
        omega
      apply List.ext_getElem?
      intro i
      by_cases hi : i < n
      · obtain ⟨b, hb, hf⟩ := Lib.mapM_at hm i i (by simp [hi])
        obtain ⟨z, hc, rfl, _⟩ := DataW.trod_string he hf
        have h1 : cs[i]? = some (.string z) := by
          have := congrArg (·[0]?) hc
          simpa [List.getElem?_take, List.getElem?_drop] using this
        have h2 : (xs.map (·.1))[i]? = some (DataW.lit (.string z.data.toList) : DataW H) := by simp [hb]
        rw [hxs] at h2
        simp only [List.getElem?_map, Option.map_eq_some_iff, DataW.lit.injEq, Lit.string.injEq] at h2
        obtain ⟨z', hz', rfl⟩ := h2
        rw [h1, List.getElem?_map, hz']
        simp only [Option.map_some, str_list]
      · rw [List.getElem?_eq_none (by omega), List.getElem?_eq_none (by simp; omega)]
    · cases h
theorem words_of_head11 {P : Program} {W : World} {name : String} {ws : List (List UInt8)} {rest : List (String × DataW Unit)} {g : Nat} {t e : TypeId} {n : Nat}
    (hg : P.globalNamed name = some g) (hty : (P.globals[g]?).map (·.type) = some t) (ht : P.underlying t = some (.array n e)) (he : P.underlying e = some .string) (hce : P.cellsOf e = 1) (hct : P.cellsOf t = n)
    (h : laidMet P ((name, .agg (ws.map fun l => .lit (.string l))) :: rest) W) : W.var? P name = some (ws.map fun l => Value.string (str l)).toArray := by
  obtain ⟨ps, ⟨g', t', cs, fuel, p, q, hg', ht', hvar, hd, _, _⟩, _⟩ := h
  obtain rfl := Option.some.inj (hg.symm.trans hg')
  obtain rfl := Option.some.inj (hty.symm.trans ht')
  rw [hvar, ← cells_words11 ht he hce hct hd]
theorem gTab11 : Tryd.prog.globalNamed "internal/strconv.uint64pow10" = some 2 := by kernel_rfl
theorem gTabType11 : (Tryd.prog.globals[(2 : Nat)]?).map (·.type) = some 84 := by kernel_rfl
theorem cellsTab11 : Tryd.prog.cellsOf 84 = 20 := by kernel_rfl
theorem cellsU11 : Tryd.prog.cellsOf 71 = 1 := by kernel_rfl
theorem gWordsType11 : (Tryd.prog.globals[(0 : Nat)]?).map (·.type) = some 57 := by kernel_rfl
theorem cellsWords11 : Tryd.prog.cellsOf 57 = 19 := by kernel_rfl
theorem cellsS11 : Tryd.prog.cellsOf 9 = 1 := by kernel_rfl
theorem gSyn11 : Tryd.prog.globalNamed "strconv.ErrSyntax" = some 3 := by kernel_rfl
theorem gSynType11 : (Tryd.prog.globals[(3 : Nat)]?).map (·.type) = some 44 := by kernel_rfl
theorem gRng11 : Tryd.prog.globalNamed "strconv.ErrRange" = some 4 := by kernel_rfl
theorem gRngType11 : (Tryd.prog.globals[(4 : Nat)]?).map (·.type) = some 44 := by kernel_rfl
theorem cellsErr11 : Tryd.prog.cellsOf 105 = 1 := by kernel_rfl
theorem star11 : "*" ++ "errors.errorString" = "*errors.errorString" := by decide
theorem rowErr11 (u : TypeId) (h : Tryd.prog.typeName? 3 u = some "*errors.errorString") : u = 103 :=
  typeName_ptr_named (nm := "errors.errorString") (by rw [star11]; kernel_rfl) (by kernel_rfl) (by decide) u (by rw [star11]; exact h)
theorem vr_of_laid11 {W : World} (h : laidMet Tryd.prog [("math/bits.deBruijn32tab", Rows.laid_math_bits_deBruijn32tab), ("math/bits.deBruijn64tab", Rows.laid_math_bits_deBruijn64tab), ("internal/strconv.uint64pow10", Rows.laid_internal_strconv_uint64pow10), ("strconv.ErrRange", Rows.laid_strconv_ErrRange), ("strconv.ErrSyntax", Rows.laid_strconv_ErrSyntax), ("anamnesis/code.words", Rows.laid_anamnesis_code_words)] W) (hs : W.ShapedOpen Tryd.prog) : Vr11 W := by
  have h2 := laidMet.tail (laidMet.tail h)
  have h3 := laidMet.tail h2
  have h4 := laidMet.tail h3
  have h5 := laidMet.tail h4
  obtain ⟨a1, s1, hv1, -, -, -⟩ := laid_sentinel h3 gRng11 gRngType11 Tryd.underlying44 rowErr11 Tryd.underlying103 Tryd.underlying105 rfl rfl Tryd.underlying9 cellsErr11 cellsS11
  obtain ⟨a2, s2, hv2, -, -, -⟩ := laid_sentinel h4 gSyn11 gSynType11 Tryd.underlying44 rowErr11 Tryd.underlying103 Tryd.underlying105 rfl rfl Tryd.underlying9 cellsErr11 cellsS11
  exact {
    words := words_of_head11 (ws := wds11) (rest := []) gWords11 gWordsType11 Tryd.underlying57 Tryd.underlying9 cellsS11 cellsWords11 h5
    tab := Lib.tabIs_of_head gTab11 gTabType11 Tryd.underlying84 Tryd.underlying71 cellsU11 cellsTab11 h2
    syn := ⟨_, _, hv2⟩
    rng := ⟨_, _, hv1⟩
    mx := cell_of_shapedOpen_int (zero := #[.int .i64 0]) (t := 3) hs (of_decide_eq_true (by kernel_rfl)) (by kernel_rfl) rfl (by kernel_rfl) (by kernel_rfl) Tryd.underlying3 }
end Go.Proofs.YtobelbaeaamkkaaDoor
