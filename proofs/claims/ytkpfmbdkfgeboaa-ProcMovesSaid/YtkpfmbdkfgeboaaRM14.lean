/- slices.Insert of one int into a list of the call's own. -/
import Derived.Test.YtkpfmbdkfgeboaaRL14
import Derived.Test.YtkpfmbdkfgeboaaZI14
namespace Go.Proofs.Ytkpfmbdkfgeboaa
open Go.RowKit
set_option maxRecDepth 100000
def Own1_14 (S : Option Addr) (g : Nat) : Prop := ∃ a : Addr, S = some a ∧ a.block = g
theorem on_cells14 {Wr : Nat → Prop} {b : Nat} {w : World} (hb : Wr b ∨ w.heap.size ≤ b) : ∀ (vs : List Value) (o : Nat) {X : World}, On14 Wr w X → On14 Wr w (X.setCells b o vs)
  | [], _, _, h => h
  | v :: r, o, X, h => by
    rw [World.setCells]
    exact on_cells14 hb r (o + 1) (h.set_ hb o v)
theorem size_cells14 (b : Nat) : ∀ (vs : List Value) (o : Nat) (w : World), (w.setCells b o vs).heap.size = w.heap.size
  | [], _, _ => rfl
  | v :: r, o, w => by rw [World.setCells, size_cells14 b r (o + 1)]; simp
theorem jl_len14 (l : List Int) (p : Int) {k : Nat} (hk : k ≤ l.length) : (jl14 l p k).length = l.length + 1 := by unfold jl14; simp; omega
theorem jl_get14 {l : List Int} {p : Int} {k j : Nat} (hk : k ≤ l.length) (hj : j < l.length + 1) {x : Int} (h : (jl14 l p k)[j]? = some x) :
    (j < k ∧ l[j]? = some x) ∨ (j = k ∧ x = p) ∨ (k < j ∧ (l.drop k)[j - (k + 1)]? = some x) := by
  unfold jl14 at h
  by_cases h1 : j < k
  · left
    rw [List.getElem?_append_left (by simp; omega), List.getElem?_take, if_pos h1] at h
    exact ⟨h1, h⟩
  · rw [List.getElem?_append_right (by simp; omega)] at h
    have e : (l.take k).length = k := by simp; omega
    rw [e] at h
    by_cases h2 : j = k
    · subst h2
      rw [Nat.sub_self] at h
      right; left
      exact ⟨rfl, by simpa using h.symm⟩
    · right; right
      refine ⟨by omega, ?_⟩
      have e2 : j - k = (j - (k + 1)) + 1 := by omega
      rw [e2, List.getElem?_cons_succ] at h
      exact h
set_option maxHeartbeats 2000000 in
theorem insert_any14 (l : List Int) (S : Option Addr) (c base k : Nat) (p : Int) (vb : Nat) (w : World) (ho : w.ownsRow base 3 1 (.slice S l.length c) l.length (l.map (Value.int .i64))) (hv : Lies w vb 3 #[.int .i64 p]) (hvb : ∀ a, S = some a → a.block ≠ vb) (hk : k ≤ l.length) (hl : l.length ≤ 300) :
    Calls Try.prog 52 #[.slice S l.length c, .int .i64 k, .slice (some ⟨vb, 0, none⟩) 1 1] w fun e w' => ∃ S' c', e = .returned (.slice S' (l.length + 1) c') ∧ IntsR w' S' (jl14 l p k) ∧ On14 (Own1_14 S) w w' ∧ ∀ a, S' = some a → Own1_14 S a.block ∨ (w.heap.size ≤ a.block ∧ a.block < w'.heap.size) := by
  have hcs : ∀ (g : Nat), S = some ⟨g, 0, none⟩ → ∀ j v, (l.map (Value.int .i64))[j]? = some v → w.cell? ⟨g, j, none⟩ = some v := fun g e j v hj => by
    subst e
    have hjl : j < l.length := by have := (List.getElem?_eq_some_iff.1 hj).1; simpa using this
    rw [ho.cellAt j (by omega)]; exact hj
  have hvs : ∀ j v, [Value.int .i64 p][j]? = some v → w.cell? ⟨vb, 0 + j, none⟩ = some v := fun j v hj => by
    rw [Nat.zero_add, hv.cell j]; simpa using hj
  have h1v : ∀ v ∈ [Value.int .i64 p], v.oneCell' = true := fun v h => by
    obtain rfl : v = .int .i64 p := by simpa using h
    rfl
  have h1c : ∀ v ∈ l.map (Value.int .i64), v.oneCell' = true := fun v h => by
    obtain ⟨x, -, rfl⟩ := List.mem_map.1 h
    rfl
  have hnc := own_cap ho
  rcases ho.2 with ⟨hv0, hn0⟩ | ⟨g, cap, cur, hv0, hg, hh, hc1, hc2, hc3, hc4⟩
  · -- the nil list
    simp only [Value.slice.injEq] at hv0
    obtain ⟨rfl, -, rfl⟩ := hv0
    obtain rfl : l = [] := List.length_eq_zero_iff.1 hn0
    obtain rfl : k = 0 := by simpa using hk
    refine (Any2.slices_Insert_int_end_grow lays14 none 0 0 vb 0 1 1 [] [.int .i64 p] w (by omega) (by omega) (by omega) (by omega) rfl rfl (fun _ => rfl) (fun a e => by cases e) hvs h1v).mono ?_
    rintro e w' ⟨rfl, rfl⟩
    refine ⟨_, _, rfl, fun _ => ⟨w.heap.size, 0, rfl, by simp, fun j x hx => ?_⟩, On14.of_below ((Below.refl _ w).drew.trans ((Below.refl _ w.drew).alloc (Nat.le_refl _) _)), fun a e => .inr ?_⟩
    · have hj : j = 0 := by
        have := (List.getElem?_eq_some_iff.1 hx).1
        simp [jl14] at this; omega
      subst hj
      have : x = p := by simpa [jl14] using hx.symm
      subst this
      refine ((Lies.new w.drew 3 (([] ++ [Value.int .i64 x]).toArray ++ Builtin.zeroCells (Value.int .i64 0).cells (grownCap w (0 + 1) 0 3 - (0 + 1)))).cell 0).trans ?_
      rw [Array.getElem?_append_left (by simp)]
      simp
    · injection e with e
      subst e
      exact ⟨by simp, by simp⟩
  · simp only [Value.slice.injEq, true_and] at hv0
    obtain ⟨rfl, rfl⟩ := hv0
    have HL : Lies w g 3 cur := hh
    have hgw : g < w.heap.size := HL.lt
    have hgv : vb ≠ g := fun e => hvb _ rfl e.symm
    have hsome : ∀ j, j < c → (w.cell? ⟨g, j, none⟩).isSome = true := fun j hj => by
      rw [HL.cell j, Array.getElem?_eq_getElem (by omega)]; rfl
    have hcells := hcs g rfl
    have hwr : Own1_14 (some ⟨g, 0, none⟩) g := ⟨_, rfl, rfl⟩
    have hmap : (l.map (Value.int .i64)).length = l.length := by simp
    by_cases hroom : l.length + 1 ≤ c
    · by_cases hkl : k < l.length
      · refine (Any2.slices_Insert_int_shift lays14 g 0 l.length c k vb 0 1 1 (l.map (Value.int .i64)) [.int .i64 p] w hkl (by omega) hroom (by unfold maxLen at hc2; omega) hgv hmap rfl (fun j v hj => by rw [Nat.zero_add]; exact hcells j v hj) (fun j hj => by rw [Nat.zero_add]; exact hsome j (by omega)) (fun j _ => HL.frozen _) hvs h1c h1v 3 3 1 cur.size (by unfold World.shape?; rw [show w.heap[vb]? = _ from hv]; rfl) (by unfold World.shape?; rw [hh]) (by omega) (hv.frozen 0) (hv.frozen 1)).mono ?_
        rintro e w' ⟨rfl, rfl⟩
        have hdr : ((l.map (Value.int .i64)).drop k).length = l.length - k := by simp
        have hs1 : ∀ j, j < c → ((w.drew.setCells g (k + 1) ((l.map (Value.int .i64)).drop k)).cell? ⟨g, j, none⟩).isSome = true := fun j hj => by
          refine isSome_setCells g _ _ _ (fun j' hj' => ?_) j ?_
          · exact hsome _ (by rw [hdr] at hj'; omega)
          · exact hsome j hj
        refine ⟨_, _, rfl, fun _ => ⟨g, 0, rfl, by rw [size_cells14, size_cells14]; exact hgw, fun j x hx => ?_⟩, on_cells14 (.inl hwr) _ _ (on_cells14 (.inl hwr) _ _ (On14.of_below (Below.refl _ w).drew)), fun a e => .inl ⟨a, e, rfl⟩⟩
        have hjl : j < l.length + 1 := by
          have := (List.getElem?_eq_some_iff.1 hx).1
          rwa [jl_len14 _ _ hk] at this
        simp only [Nat.zero_add]
        rcases jl_get14 hk hjl hx with ⟨h1, h2⟩ | ⟨h1, h2⟩ | ⟨h1, h2⟩
        · rw [World.cell?_setCells_out g _ _ _ ⟨g, j, none⟩ (fun _ _ => Or.inl (by simp; omega)), World.cell?_setCells_out g _ _ _ ⟨g, j, none⟩ (fun _ _ => Or.inl (by simp; omega))]
          exact hcells j _ (by rw [List.getElem?_map, h2]; rfl)
        · subst h1
          subst h2
          have := World.cell?_setCells_in g [Value.int .i64 x] j (w.drew.setCells g (j + 1) ((l.map (Value.int .i64)).drop j)) (fun j' hj' => hs1 _ (by simp at hj'; omega)) 0 (by simp)
          simpa using this
        · rw [World.cell?_setCells_out g _ _ _ ⟨g, j, none⟩ (fun _ _ => Or.inr (by simp; omega))]
          have := World.cell?_setCells_in g ((l.map (Value.int .i64)).drop k) (k + 1) w.drew (fun j' hj' => hsome _ (by omega)) (j - (k + 1)) (by rw [hdr]; omega)
          rw [show k + 1 + (j - (k + 1)) = j by omega] at this
          rw [this]
          have h3 : ((l.map (Value.int .i64)).drop k)[j - (k + 1)]? = some (Value.int .i64 x) := by rw [← List.map_drop, List.getElem?_map, h2]; rfl
          rw [List.getElem?_eq_getElem (by rw [hdr]; omega)] at h3
          exact h3
      · obtain rfl : k = l.length := by omega
        refine (Any2.slices_Insert_int_end_room lays14 g 0 l.length c vb 0 1 1 [.int .i64 p] w (by omega) hroom (by unfold maxLen at hc2; omega) rfl (fun j hj => by rw [Nat.zero_add]; exact hsome _ (by omega)) (fun j _ => HL.frozen _) hvs h1v).mono ?_
        rintro e w' ⟨rfl, rfl⟩
        refine ⟨_, _, rfl, fun _ => ⟨g, 0, rfl, by rw [size_cells14]; exact hgw, fun j x hx => ?_⟩, on_cells14 (.inl hwr) _ _ (On14.refl _ _), fun a e => .inl ⟨a, e, rfl⟩⟩
        have hjl : j < l.length + 1 := by
          have := (List.getElem?_eq_some_iff.1 hx).1
          rwa [jl_len14 _ _ hk] at this
        simp only [Nat.zero_add]
        rcases jl_get14 hk hjl hx with ⟨h1, h2⟩ | ⟨h1, h2⟩ | ⟨h1, h2⟩
        · rw [World.cell?_setCells_out g _ _ _ ⟨g, j, none⟩ (fun _ _ => Or.inl (by simp; omega))]
          exact hcells j _ (by rw [List.getElem?_map, h2]; rfl)
        · subst h1
          subst h2
          have := World.cell?_setCells_in g [Value.int .i64 x] l.length w (fun j' hj' => hsome _ (by simp at hj'; omega)) 0 (by simp)
          simpa using this
        · omega
    · by_cases hkl : k < l.length
      · refine (Any2.slices_Insert_int_grow lays14 g 0 l.length c k vb 0 1 1 (l.map (Value.int .i64)) [.int .i64 p] w hkl (by omega) hnc (by omega) (by omega) hmap rfl (fun j v hj => by rw [Nat.zero_add]; exact hcells j v hj) hvs h1c h1v).mono ?_
        rintro e w' ⟨rfl, rfl⟩
        obtain ⟨ar, har⟩ : ∃ x, x = ((l.map (Value.int .i64)).take k).toArray ++ Builtin.zeroCells (Value.int .i64 0).cells (l.length + 1 - k) ++ Builtin.zeroCells (Value.int .i64 0).cells (grownCap w (l.length + 1) c 3 - (l.length + 1)) := ⟨_, rfl⟩
        have hsz : l.length + 1 ≤ ar.size := by
          rw [har]
          have e1 : ((l.map (Value.int .i64)).take k).toArray.size = k := by simp; omega
          rw [Array.size_append, Array.size_append, e1, size_zeroCells, size_zeroCells]
          show l.length + 1 ≤ k + (l.length + 1 - k) * 1 + _
          omega
        obtain ⟨V, hV⟩ : ∃ V, V = (w.alloc (.cells ar 3)).drew := ⟨_, rfl⟩
        have hLV : Lies V w.heap.size 3 ar := by rw [hV]; exact (Lies.new w 3 ar).drew
        have hBV : Below w.heap.size w V := by rw [hV]; exact (below_alloc _ _).trans ((Below.refl _ _).drew)
        have hVs : V.heap.size = w.heap.size + 1 := by rw [hV]; simp
        obtain ⟨VV, hVV⟩ : ∃ x, x = ((V.setCells w.heap.size k [.int .i64 p]).drew).setCells w.heap.size (k + 1) ((l.map (Value.int .i64)).drop k) := ⟨_, rfl⟩
        suffices hgoal : ∃ S' c', Ending.returned (.slice (some ⟨w.heap.size, 0, none⟩) (l.length + 1) (grownCap w (l.length + 1) c 3)) = Ending.returned (.slice S' (l.length + 1) c') ∧ IntsR VV S' (jl14 l p k) ∧ On14 (Own1_14 (some ⟨g, 0, none⟩)) w VV ∧ ∀ a, S' = some a → Own1_14 (some ⟨g, 0, none⟩) a.block ∨ (w.heap.size ≤ a.block ∧ a.block < VV.heap.size) by
          rw [hVV, hV, har] at hgoal
          exact hgoal
        rw [hVV]
        have hdr : ((l.map (Value.int .i64)).drop k).length = l.length - k := by simp
        have hsV : ∀ j, j < l.length + 1 → (V.cell? ⟨w.heap.size, j, none⟩).isSome = true := fun j hj => by
          rw [hLV.cell j, Array.getElem?_eq_getElem (by omega)]; rfl
        have hs1 : ∀ j, j < l.length + 1 → ((V.setCells w.heap.size k [.int .i64 p]).drew.cell? ⟨w.heap.size, j, none⟩).isSome = true := fun j hj => by
          refine isSome_setCells w.heap.size _ _ V (fun j' hj' => ?_) j ?_
          · exact hsV _ (by simp at hj'; omega)
          · exact hsV j hj
        refine ⟨_, _, rfl, fun _ => ⟨w.heap.size, 0, rfl, ?_, fun j x hx => ?_⟩, ?_, fun a e => .inr ?_⟩
        · rw [size_cells14]
          show _ < (V.setCells w.heap.size k [.int .i64 p]).heap.size
          rw [size_cells14]; omega
        · have hjl : j < l.length + 1 := by
            have := (List.getElem?_eq_some_iff.1 hx).1
            rwa [jl_len14 _ _ hk] at this
          simp only [Nat.zero_add]
          rcases jl_get14 hk hjl hx with ⟨h1, h2⟩ | ⟨h1, h2⟩ | ⟨h1, h2⟩
          · rw [World.cell?_setCells_out w.heap.size _ _ _ ⟨w.heap.size, j, none⟩ (fun _ _ => Or.inl (by simp; omega))]
            show (V.setCells w.heap.size k [.int .i64 p]).cell? _ = _
            rw [World.cell?_setCells_out w.heap.size _ _ _ ⟨w.heap.size, j, none⟩ (fun _ _ => Or.inl (by simp; omega)), hLV.cell j, har]
            rw [Array.getElem?_append_left (by simp [size_zeroCells]; omega), Array.getElem?_append_left (by simp; omega)]
            simp only [List.getElem?_toArray]
            rw [List.getElem?_take, if_pos h1, List.getElem?_map, h2]; rfl
          · subst h1
            subst h2
            rw [World.cell?_setCells_out w.heap.size _ _ _ ⟨w.heap.size, j, none⟩ (fun _ _ => Or.inl (by simp))]
            have := World.cell?_setCells_in w.heap.size [Value.int .i64 x] j V (fun j' hj' => hsV _ (by simp at hj'; omega)) 0 (by simp)
            simpa using this
          · have := World.cell?_setCells_in w.heap.size ((l.map (Value.int .i64)).drop k) (k + 1) (V.setCells w.heap.size k [.int .i64 p]).drew (fun j' hj' => hs1 _ (by rw [hdr] at hj'; omega)) (j - (k + 1)) (by rw [hdr]; omega)
            rw [show k + 1 + (j - (k + 1)) = j by omega] at this
            rw [this]
            have h3 : ((l.map (Value.int .i64)).drop k)[j - (k + 1)]? = some (Value.int .i64 x) := by rw [← List.map_drop, List.getElem?_map, h2]; rfl
            rw [List.getElem?_eq_getElem (by rw [hdr]; omega)] at h3
            exact h3
        · exact on_cells14 (.inr (Nat.le_refl _)) _ _ ((on_cells14 (.inr (Nat.le_refl _)) _ _ (On14.of_below hBV)).then_below (Below.refl _ _).drew (Nat.le_refl _))
        · injection e with e
          subst e
          refine ⟨Nat.le_refl _, ?_⟩
          rw [size_cells14]
          show _ < (V.setCells w.heap.size k [.int .i64 p]).heap.size
          rw [size_cells14]
          show w.heap.size < V.heap.size
          omega
      · obtain rfl : k = l.length := by omega
        refine (Any2.slices_Insert_int_end_grow lays14 (some ⟨g, 0, none⟩) l.length c vb 0 1 1 (l.map (Value.int .i64)) [.int .i64 p] w (by omega) hnc (by omega) (by omega) hmap rfl (fun e => by cases e) (fun a e j v hj => by
          injection e with e
          subst e
          rw [Addr.add_lit, Nat.zero_add]
          exact hcells j v hj) hvs h1v).mono ?_
        rintro e w' ⟨rfl, rfl⟩
        refine ⟨_, _, rfl, fun _ => ⟨w.heap.size, 0, rfl, by simp, fun j x hx => ?_⟩, On14.of_below ((Below.refl _ w).drew.trans ((Below.refl _ w.drew).alloc (Nat.le_refl _) _)), fun a e => .inr ?_⟩
        · have hjl : j < l.length + 1 := by
            have := (List.getElem?_eq_some_iff.1 hx).1
            rwa [jl_len14 _ _ hk] at this
          have := (Lies.new w.drew 3 ((l.map (Value.int .i64) ++ [Value.int .i64 p]).toArray ++ Builtin.zeroCells (Value.int .i64 0).cells (grownCap w (l.length + 1) c 3 - (l.length + 1)))).cell j
          rw [Nat.zero_add]
          refine this.trans ?_
          rw [Array.getElem?_append_left (by simp; omega)]
          have e : jl14 l p l.length = l ++ [p] := by unfold jl14; simp
          rw [e] at hx
          have h3 := congrArg (Option.map (Value.int .i64)) hx
          rw [← List.getElem?_map, List.map_append] at h3
          simpa using h3
        · injection e with e
          subst e
          exact ⟨by simp, by simp⟩
end Go.Proofs.Ytkpfmbdkfgeboaa
