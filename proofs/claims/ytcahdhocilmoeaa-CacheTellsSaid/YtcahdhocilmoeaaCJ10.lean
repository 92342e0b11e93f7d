/- What the laws on caches lean on. -/
import Derived.Test.YtcahdhocilmoeaaCI10
namespace Go.Proofs.Ytcahdhocilmoeaa
open Go.RowKit
set_option maxRecDepth 100000
theorem Only2.cell {p q : Nat} {w w' : World} (h : Only2 p q w w') {b o : Nat} {v : Value} (h1 : b ≠ p) (h2 : b ≠ q) (hc : w.cell? ⟨b, o, none⟩ = some v) : w'.cell? ⟨b, o, none⟩ = some v :=
  (World.cell?_of_block (w := w) (a := ⟨b, o, none⟩) (h.block b (World.block_lt_of_cell? _ _ hc) h1 h2)).trans hc
theorem Ca.far {w w' : World} {p q p' q' : Nat} {L L' : List En} {n m n' m' : Int} (h : Ca w p q L n m) (k : Ca w p' q' L' n' m') (ho : Only2 p' q' w w') (hp : p ≠ p') (hq : q ≠ q') : Ca w' p q L n m :=
  ⟨ho.lies h.box hp (lies_ne h.box k.row (by decide)), ho.lies h.row (lies_ne h.row k.box (by decide)) hq⟩
theorem Ca.farR {w w' : World} {p q p' q' : Nat} {L L' : List En} {n m n' m' : Int} (h : Ca w p q L n m) (k : Cr w p' q' L' n' m') (ho : Only2 p' q' w w') : Ca w' p q L n m :=
  ⟨ho.lies h.box (lies_ne h.box k.box (by decide)) (lies_ne h.box k.row (by decide)), ho.lies h.row (lies_ne h.row k.box (by decide)) (lies_ne h.row k.row (by decide))⟩
theorem Cr.farP {w w' : World} {p q p' q' : Nat} {L L' : List En} {n m n' m' : Int} (h : Cr w p q L n m) (k : Ca w p' q' L' n' m') (ho : Only2 p' q' w w') : Cr w' p q L n m :=
  ⟨ho.lies h.box (lies_ne h.box k.box (by decide)) (lies_ne h.box k.row (by decide)), ho.lies h.row (lies_ne h.row k.box (by decide)) (lies_ne h.row k.row (by decide))⟩
section
variable {w w' : World} {p q : Nat} {L : List En} {h : Hp} {c s n m : Int} {e : Ending}
/-- each Find is counted once -/
theorem FoundP.sum (f : FoundP w p q L h c s n m e w') (hn : 0 ≤ n) (hm : 0 ≤ m) : ∃ v L1 n1 m1, e = .returned (tu10 v) ∧ Ca w' p q L1 n1 m1 ∧ Only2 p q w w' ∧ L1.length = L.length ∧ n1 + m1 = n + m + 1 ∧ 0 ≤ n1 ∧ 0 ≤ m1 := by
  obtain ⟨h1, h2, h3⟩ := f
  refine ⟨_, _, _, _, h1, h2, h3, cb10_len L h c s, ?_, ?_, ?_⟩ <;> split <;> omega
/-- of one heap it answers as look does; one hit more, or none -/
theorem FoundP.so (f : FoundP w p q L h c s n m e w') (hs : So10 h L) (hl : 1 ≤ L.length) : ∃ n1 m1, e = .returned (tu10 (lk9 h c s)) ∧ Ca w' p q (cb10 L h c s) n1 m1 ∧ Only2 p q w w' ∧ So10 h (cb10 L h c s) ∧ (cb10 L h c s).length = L.length ∧ n1 + m1 = n + m + 1 ∧ n ≤ n1 ∧ m ≤ m1 := by
  obtain ⟨h1, h2, h3⟩ := f
  refine ⟨_, _, by rw [h1, fd10_is hs hl], h2, h3, so_cb10 hs c s, cb10_len L h c s, ?_, ?_, ?_⟩ <;> split <;> omega
end
end Go.Proofs.Ytcahdhocilmoeaa
