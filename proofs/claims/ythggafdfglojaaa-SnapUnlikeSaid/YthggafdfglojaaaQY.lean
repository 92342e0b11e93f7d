/- A sum's four bytes, the document's. -/
import Derived.Test.YthggafdfglojaaaQD
import Derived.Laws.IdiomStrings
import Derived.Laws.Rows
namespace Go.Proofs.Ythggafdfglojaaa
open Go.RowKit
set_option maxRecDepth 100000
/-- a sum's four bytes -/
def b4B (n : Nat) : ByteArray := ⟨((by4 n).map UInt8.ofNat).toArray⟩
def boI (n : Int) : ByteArray := if suB n = true then b4B n.toNat else ⟨#[]⟩
theorem boI_yes {n : Nat} (h : n < 4294967296) : boI n = b4B n := by
  unfold boI; rw [if_pos (suB_iff.2 ⟨by omega, by omega⟩)]; rfl
theorem boI_no {n : Int} (h : suB n = false) : boI n = ⟨#[]⟩ := by unfold boI; rw [if_neg (by rw [h]; decide)]
theorem by4_lt {n : Nat} (h : n < 4294967296) : ∀ c ∈ by4 n, c < 256 := by
  intro c hc
  simp only [by4, List.mem_cons, List.not_mem_nil, or_false] at hc
  rcases hc with rfl | rfl | rfl | rfl <;> omega
theorem byL_b4 {n : Nat} (h : n < 4294967296) : byL (b4B n) = by4 n := by
  unfold byL b4B
  simp only [List.map_map]
  have : ∀ c ∈ by4 n, (UInt8.toNat ∘ UInt8.ofNat) c = c := fun c hc => by
    show (UInt8.ofNat c).toNat = c
    rw [UInt8.toNat_ofNat']; have := by4_lt h c hc; omega
  rw [List.map_congr_left this]; simp
/-- four cells that hold a sum's bytes -/
def c4 (n : Nat) : Array Value := ((by4 n).map fun c : Nat => Value.int .u8 ((c : Nat) : Int)).toArray
theorem conv4 {W : World} {g t : Nat} {n : Nat} (h : n < 4294967296) (hg : W.heap[g]? = some (.cells (c4 n) t (0, 0))) : (convert 54 9 (.slice (some ⟨g, 0, none⟩) 4 4)).run Try.prog W = .ok (.string (b4B n)) W := by
  have := run_convert_bytes_back (P := Try.prog) W 54 9 5 ⟨g, 0, none⟩ 4 ((by4 n).map UInt8.ofNat) Try.underlying54 Try.underlying5 Try.underlying9 (fun j hj => by
    have hj4 : j < (by4 n).length := by simpa using hj
    rw [Addr.add_lit, Nat.zero_add, cell_of_row W g j (c4 n) t (0, 0) hg]
    unfold c4
    rw [List.getElem?_toArray, List.getElem?_map, List.getElem?_eq_getElem hj4]
    have h1 := by4_lt h _ (List.getElem_mem hj4)
    have h2 : (UInt8.ofNat (by4 n)[j]).toNat = (by4 n)[j] := by rw [UInt8.toNat_ofNat']; omega
    simp [h2])
  simpa [by4, b4B] using this
theorem tm256 (m : Nat) : (m : Int).tmod 256 = ((m % 256 : Nat) : Int) := by rw [Int.tmod_eq_emod_of_nonneg (by omega)]; rfl
theorem td_a (m : Nat) : (m : Int).tdiv 256 = ((m / 256 : Nat) : Int) := by rw [Int.tdiv_eq_ediv_of_nonneg (by omega)]; rfl
theorem td_b (m : Nat) : (m : Int).tdiv 65536 = ((m / 65536 : Nat) : Int) := by rw [Int.tdiv_eq_ediv_of_nonneg (by omega)]; rfl
theorem td_c (m : Nat) : (m : Int).tdiv 16777216 = ((m / 16777216 : Nat) : Int) := by rw [Int.tdiv_eq_ediv_of_nonneg (by omega)]; rfl
theorem u8_small (a : Nat) (h : a < 256) : IntKind.u8.wrap (a : Int) = a := IntWalk.u8_in _ ⟨by omega, by omega⟩
theorem div_lt4 (m d : Nat) (h : m < 4294967296) : m / d < 4294967296 := Nat.lt_of_le_of_lt (Nat.div_le_self _ _) h
theorem top_lt (m : Nat) (h : m < 4294967296) : m / 16777216 < 256 := by omega
theorem wrap64_nat (a : Nat) (h : a < 4294967296) : wrap64 (a : Int) = a := by unfold wrap64; omega
theorem four_parts (m : Nat) (hm : m < 4294967296) : ∃ a0 q1 a1 q2 a2 a3 : Nat, Hid (c4 m = #[.int .u8 a0, .int .u8 a1, .int .u8 a2, .int .u8 a3]) ∧ (m : Int).tmod 256 = (a0 : Int) ∧ (m : Int).tdiv 256 = (q1 : Int) ∧ (q1 : Int).tmod 256 = (a1 : Int) ∧ (m : Int).tdiv 65536 = (q2 : Int) ∧ (q2 : Int).tmod 256 = (a2 : Int) ∧ (m : Int).tdiv 16777216 = (a3 : Int) ∧ IntKind.u8.wrap (a0 : Int) = a0 ∧ IntKind.u8.wrap (a1 : Int) = a1 ∧ IntKind.u8.wrap (a2 : Int) = a2 ∧ IntKind.u8.wrap (a3 : Int) = a3 ∧ wrap64 (q1 : Int) = q1 ∧ wrap64 (q2 : Int) = q2 ∧ wrap64 (a3 : Int) = a3 :=
  ⟨m % 256, m / 256, m / 256 % 256, m / 65536, m / 65536 % 256, m / 16777216, hid rfl, tm256 m, td_a m, tm256 _, td_b m, tm256 _, td_c m,
    u8_small _ (Nat.mod_lt _ (by decide)), u8_small _ (Nat.mod_lt _ (by decide)), u8_small _ (Nat.mod_lt _ (by decide)), u8_small _ (top_lt m hm), wrap64_nat _ (div_lt4 _ _ hm), wrap64_nat _ (div_lt4 _ _ hm), wrap64_nat _ (div_lt4 _ _ hm)⟩
set_option maxHeartbeats 1500000 in
theorem rbytes_any (n : Int) (w : World) : Calls Try.prog 43 #[.int .i64 n] w fun e w' => e = .returned (.string (boI n)) ∧ Below w.heap.size w w' := by
  cases hn : suB n
  · rw [boI_no hn]
    go_enter Try.func43, Try.ntmps43
    go_wp2_with (go_at_call 82; refine (rmay7_any _ _).mono ?_; rintro e w' ⟨rfl, rfl⟩)
    go_ret
    exact ⟨rfl, Below.refl _ _⟩
  · obtain ⟨h0, h1⟩ := suB_iff.1 hn
    obtain ⟨m, rfl⟩ : ∃ m : Nat, n = m := ⟨n.toNat, by omega⟩
    have hm : m < 4294967296 := by omega
    have EM := hid (boI_yes hm)
    obtain ⟨a0, q1, a1, q2, a2, a3, F⟩ := four_parts m hm
    obtain ⟨HC, b0, b1, b2, b3, b4, b5, w0, w1, w2, w3, x1, x2, x3⟩ := F
    have CV : ∀ W : World, (convert 54 9 (.slice (some ⟨W.heap.size, 0, none⟩) 4 4)).run Try.prog (W.alloc (.cells #[.int .u8 a0, .int .u8 a1, .int .u8 a2, .int .u8 a3] 5)) = .ok (.string (b4B m)) (W.alloc (.cells #[.int .u8 a0, .int .u8 a1, .int .u8 a2, .int .u8 a3] 5)) := fun W => by
      rw [← HC.out]
      exact conv4 hm (Lies.new W 5 (c4 m))
    clear h0 h1 hm
    go_enter Try.func43, Try.ntmps43
    go_wp2_with (go_at_call 82; refine (rmay7_any _ _).mono ?_; rintro e w' ⟨rfl, rfl⟩)
    go_ret
    exact ⟨by rw [EM.out]; rfl, below_alloc _ _⟩
end Go.Proofs.Ythggafdfglojaaa
