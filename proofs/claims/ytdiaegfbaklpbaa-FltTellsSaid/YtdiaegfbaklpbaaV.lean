/-
  The contract of package flt's Text: the sixteen digits of the bits, the highest first.
-/
import Derived.Test.YtdiaegfbaklpbaaW
import Derived.Laws.BytesString
import Derived.Laws.IdiomStrings
namespace Go.Proofs.Ytdiaegfbaklpbaa
open Go.RowKit Flt

def hexA : ByteArray := { data := #[48, 49, 50, 51, 52, 53, 54, 55, 56, 57, 97, 98, 99, 100, 101, 102] }
/-- the byte of a digit -/
def dg (n : Nat) : UInt8 := hexA.data.getD n 0
/-- the digit at place j from the lowest -/
def nib (a : Int) (j : Nat) : Nat := (a / 2 ^ (4 * j) % 16).toNat
def textB (a : Int) : List UInt8 := (List.range 16).map fun j => dg (nib a (15 - j))
def textS (a : Int) : ByteArray := ⟨(textB a).toArray⟩
theorem nib_lt (a : Int) (j : Nat) : nib a j < 16 := by unfold nib; omega
theorem nib_and (a : Int) (j : Nat) : bits .and .i64 (a / 2 ^ (4 * j)) 15 = (nib a j : Int) := by rw [and15]; unfold nib; omega
theorem hex_at (n : Nat) (h : n < hexA.size) : (hexA[n]'h).toNat = (dg n).toNat := by
  have : ∀ m : Fin 16, (hexA[m.val]'m.isLt).toNat = (dg m.val).toNat := by decide
  exact this ⟨n, h⟩

/-- what lies in the array behind k rounds -/
def cellAt (a : Int) (k j : Nat) : Value := .int .u8 (if 16 - k ≤ j then ((dg (nib a (15 - j))).toNat : Int) else 0)

theorem fold_push : ∀ (xs : List UInt8) (s : ByteArray), (xs.map fun x => ((x.toNat : Nat) : Int)).foldl (fun r n => r.push (UInt8.ofNat n.toNat)) s = ⟨s.data ++ xs.toArray⟩
  | [], s => by simp
  | x :: xs, s => by
    simp only [List.map_cons, List.foldl_cons]
    rw [fold_push xs]
    simp [ByteArray.push]

def TextRel (a : Int) (w : World) (k : Nat) (wr : World) : Prop :=
  Below w.heap.size w wr ∧ (∀ j, j < 16 → wr.cell? ⟨w.heap.size, j, none⟩ = some (cellAt a k j)) ∧ (∀ j, wr.frozen? ⟨w.heap.size, j, none⟩ = false)

theorem TextRel.step {a : Int} {w wr : World} {k : Nat} (h : TextRel a w k wr) (hk : k < 16) : TextRel a w (k + 1) (wr.setCell ⟨w.heap.size, 15 - k, none⟩ (.int .u8 ((dg (nib a k)).toNat : Int))) := by
  obtain ⟨hb, hc, hf⟩ := h
  refine ⟨hb.setCell (Nat.le_refl _) _, fun j hj => ?_, fun j => by rw [World.frozen?_setCell]; exact hf j⟩
  by_cases e : j = 15 - k
  · subst e
    rw [World.cell?_setCell_same (h := hc _ hj)]
    unfold cellAt
    have e2 : 15 - (15 - k) = k := by omega
    rw [if_pos (by omega), e2]
  · rw [World.cell?_setCell_other (h := by intro h; injection h with _ h2; exact e h2.symm), hc j hj]
    unfold cellAt
    by_cases g : 16 - k ≤ j
    · rw [if_pos g, if_pos (by omega)]
    · rw [if_neg g, if_neg (by omega)]

theorem TextRel.start (a : Int) (w : World) : TextRel a w 0 (w.alloc (.cells #[.int .u8 0, .int .u8 0, .int .u8 0, .int .u8 0, .int .u8 0, .int .u8 0, .int .u8 0, .int .u8 0, .int .u8 0, .int .u8 0, .int .u8 0, .int .u8 0, .int .u8 0, .int .u8 0, .int .u8 0, .int .u8 0] 40)) := by
  refine ⟨(Below.refl _ _).alloc (Nat.le_refl _) _, fun j hj => ?_, fun j => ?_⟩
  · rw [World.cell?_alloc_new]
    unfold cellAt
    rw [if_neg (by omega)]
    have : ∀ m : Fin 16, (#[Value.int .u8 0, .int .u8 0, .int .u8 0, .int .u8 0, .int .u8 0, .int .u8 0, .int .u8 0, .int .u8 0, .int .u8 0, .int .u8 0, .int .u8 0, .int .u8 0, .int .u8 0, .int .u8 0, .int .u8 0, .int .u8 0] : Array Value)[m.val]? = some (.int .u8 0) := by
      intro m
      obtain ⟨m, hm⟩ := m
      match m, hm with
      | 0, _ | 1, _ | 2, _ | 3, _ | 4, _ | 5, _ | 6, _ | 7, _ | 8, _ | 9, _ | 10, _ | 11, _ | 12, _ | 13, _ | 14, _ | 15, _ => rfl
      | m + 16, h => omega
    exact this ⟨j, hj⟩
  · rw [World.frozen?_alloc_new]

theorem text_conv {a : Int} {w wr : World} (h : TextRel a w 16 wr) : (convert 41 9 (.slice (some ⟨w.heap.size, 0, none⟩) 16 16)).run Try.prog wr = .ok (.string (textS a)) wr := by
  rw [run_convert_bytes_string wr 41 9 5 _ _ _ Try.underlying41 Try.underlying5 Try.underlying9,
    run_bytesToString wr _ 16 16 ((textB a).map fun x => ((x.toNat : Nat) : Int)), fold_push]
  · unfold textS
    congr 2
  · have := run_loadCells (P := Try.prog) (w := wr) ⟨w.heap.size, 0, none⟩ 16 (fun j => cellAt a 16 j) (fun j hj => by
      have := h.2.1 j hj
      unfold Addr.add
      by_cases e : j = 0
      · subst e; exact this
      · simp only [e, if_false, Nat.zero_add]
        exact this)
    rw [this]
    congr 1

set_option maxHeartbeats 1000000 in
theorem text_any (a : Int) (w : World) : Calls Try.prog 20 #[.int .i64 a] w fun e w' => e = .returned (.string (textS a)) ∧ Below w.heap.size w w' := by
  go_enter Try.func20, Try.ntmps20
  go_wp2
  go_loopw [5] (fun i wr => ∃ k : Nat, k ≤ 16 ∧ i = .int .i64 k ∧ TextRel a w k wr) (fun i _ => 16 - (intOf i).toNat)
  case atStart => exact ⟨0, by omega, rfl, TextRel.start a w⟩
  case round =>
    obtain ⟨k, hk, rfl, hR⟩ := hrel
    rcases Nat.lt_or_ge k 16 with hlt | hge
    · have e1 := nib_and a k
      have hn := nib_lt a k
      have hx := hex_at (nib a k) hn
      have hc := hR.2.1 (15 - k) (by omega)
      have hf := hR.2.2 (15 - k)
      have HR := hid hR
      clear hR
      have hlt' : (k : Int) < 16 := by omega
      unfold hexA at hx
      go_wp2
      exact ⟨⟨k + 1, by omega, by simp, HR.out.step hlt⟩, by simp [intOf]; omega⟩
    · have e16 : k = 16 := by omega
      subst e16
      have hv := text_conv hR
      have HR := hid hR
      clear hR
      go_wp2
      go_ret
      exact ⟨rfl, HR.out.1⟩
end Go.Proofs.Ytdiaegfbaklpbaa
