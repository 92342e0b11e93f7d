/- (*numbering).values walked: what stands for each of a list. -/
import Derived.Test.YtjpibkcbgogfoaaNV
namespace Go.Proofs.Ytjpibkcbgogfoaa
open Go.RowKit
set_option maxRecDepth 100000
/-- each number once, and below -/
structure Okay (h : Hp) (M : List Nat) : Prop where
  nodup : M.Nodup
  lt : ∀ i ∈ M, i < h.objs.length
theorem Okay.len {h : Hp} {M : List Nat} (o : Okay h M) : M.length ≤ h.objs.length := nodup_le o.nodup o.lt
theorem Okay.meet {h : Hp} {M : List Nat} (o : Okay h M) (v : Int) : Okay h (meetL h M v) := by
  unfold meetL
  split
  · rename_i hc
    refine ⟨List.nodup_append.2 ⟨o.nodup, by simp, fun a ha b hb e => ?_⟩, fun i hi => ?_⟩
    · have hb2 : b = (atV v).toNat := by simpa using hb
      rw [e, hb2] at ha; exact hc.2 ha
    · rcases List.mem_append.1 hi with g | g
      · exact o.lt i g
      · have hb2 : i = (atV v).toNat := by simpa using g
        rw [hb2]; exact (refB_nat hc.1).1
  · exact o
theorem Okay.meets {h : Hp} : ∀ (vs : List Int) {M : List Nat}, Okay h M → Okay h (meets h M vs)
  | [], _, o => o
  | v :: vs, _, o => Okay.meets vs (o.meet v)
theorem Turns.later {w w1 w2 : World} {nb mb : Nat} {A A1 : Option Addr} (h : Turns w w1 nb mb A A1) (g : Below w.heap.size w1 w2) : Turns w w2 nb mb A A1 :=
  ⟨g.os.trans h.os, g.tape.trans h.tape, g.output.trans h.output, Nat.le_trans h.size g.size, fun k hk h1 h2 h3 => (g.block k hk).trans (h.block k hk h1 h2 h3), h.new⟩
theorem NumS.grown {w w' : World} {nb mb c : Nat} {A : Option Addr} {M : List Nat} (s : NumS w nb mb A c M) {row : Option Nat} (g : w.grownBy w' row) (h1 : some nb ≠ row) (h2 : some mb ≠ row) (h3 : ∀ a, A = some a → some a.block ≠ row) : NumS w' nb mb A c M :=
  ⟨s.box.grown g h1, by
    obtain ⟨D, h, hm⟩ := s.map
    exact ⟨D, h.kept g h2, hm⟩, s.row.kept g (by
      cases A with
      | none => exact .inl rfl
      | some a => exact .inr (h3 a rfl))⟩
/-- two rows in different blocks -/
def Off (S A : Option Addr) : Prop := ∀ a b, S = some a → A = some b → a.block ≠ b.block
theorem off_blk {S A : Option Addr} {n c : Nat} (h : Off S A) : ∀ a, A = some a → (Value.slice S n c).ownBlock ≠ some a.block := fun a ha e => by
  cases S with
  | none => simp [Value.ownBlock] at e
  | some b => exact h b a rfl ha (by simpa [Value.ownBlock] using e)
theorem off_turn {w w' : World} {nb mb n c base : Nat} {S A A' : Option Addr} {xs : List Value} (h : Off S A) (t : Turns w w' nb mb A A') (r : w.ownsRow base 3 1 (.slice S n c) n xs) : Off S A' := fun a b ha hb => by
  subst ha
  have hlt := (r.lt a.block rfl).2
  rcases t.new b hb with ⟨b0, h0, e⟩ | e
  · rw [e]; exact h a b0 rfl h0
  · omega
theorem off_grow {w : World} {n c m d : Nat} {S S' A : Option Addr} (h : Off S A) (hA : ∀ a, A = some a → a.block < w.heap.size) (h3 : (Value.slice S' m d).ownBlock = (Value.slice S n c).ownBlock ∨ (Value.slice S' m d).ownBlock = some w.heap.size) : Off S' A := fun a b ha hb => by
  subst ha
  rcases h3 with e | e
  · cases S with
    | none => simp [Value.ownBlock] at e
    | some s =>
      have e2 : a.block = s.block := by simpa [Value.ownBlock] using e
      rw [e2]; exact h s b rfl hb
  · have e2 : a.block = w.heap.size := by simpa [Value.ownBlock] using e
    have := hA b hb
    omega
/-- what values gives back -/
def ValsOwn (w : World) (nb mb : Nat) (A : Option Addr) (M : List Nat) (L : List Int) (e : Ending) (w' : World) : Prop :=
  ∃ A' c' S d, e = .returned (.slice S L.length d) ∧ NumS w' nb mb A' c' M ∧ Turns w w' nb mb A A' ∧ w'.ownsRow w.heap.size 3 1 (.slice S L.length d) L.length (L.map (Value.int .i64)) ∧ Off S A'
set_option maxHeartbeats 2000000 in
theorem values6_any (h : Hp) (M : List Nat) (vs : List Int) (nb mb : Nat) (A R : Option Addr) (c d : Nat) (w0 w : World) (s : NumS w nb mb A c M) (hb0 : Below w0.heap.size w0 w) (hr : IntsR w0 R vs) (hnb : w0.heap.size ≤ nb) (hmb : w0.heap.size ≤ mb) (hA : ∀ a, A = some a → w0.heap.size ≤ a.block)
    (hv : ∀ v ∈ vs, hasB h.objs.length v = true) (hn : h.objs.length ≤ 256) (ok : Okay h M) (hl : vs.length ≤ 100000) :
    Calls Try.prog 69 #[.pointer (some ⟨nb, 0, none⟩), .slice R vs.length d] w (ValsOwn w nb mb A (meets h M vs) (vs.map (cnV h (meets h M vs)))) := by
  have HS := hid s
  have HB0 := hid hb0
  have HR := hid hr
  have HA := hid hA
  have HV := hid hv
  have HOK := hid ok
  clear s hb0 hr hA hv ok
  go_enter Try.func69, Try.ntmps69
  go_wp2_with fail
  go_loopw [10, 5] (fun i s wr => ∃ (k : Nat) (A1 S1 : Option Addr) (c1 d1 : Nat), k ≤ vs.length ∧ i = .int .i64 k ∧ s = .slice S1 (toK h M vs k).length d1 ∧ NumS wr nb mb A1 c1 (meets h M (vs.take k)) ∧ Turns w wr nb mb A A1 ∧ wr.ownsRow w.heap.size 3 1 (.slice S1 (toK h M vs k).length d1) (toK h M vs k).length ((toK h M vs k).map (Value.int .i64)) ∧ Off S1 A1) (fun i _ _ => vs.length - (intOf i).toNat)
  case atStart => exact ⟨0, A, none, c, 0, Nat.zero_le _, rfl, rfl, HS.out, .refl _ _ _ _, World.ownsRow_nil _ _ _ _, fun a b ha => by cases ha⟩
  case round =>
    obtain ⟨k, A1, S1, c1, d1, hk, rfl, rfl, hs1, ht1, hown, hoff⟩ := hrel
    rename World => wj
    have HS1 := hid hs1
    have HT1 := hid ht1
    have HO := hid hown
    have HF := hid hoff
    have htl := Nat.le_of_eq (toK_len (h := h) (M := M) (vs := vs) hk)
    clear hs1 ht1 hown hoff
    by_cases hlt : k < vs.length
    · have HBJ := hid (HB0.out.trans (HT1.out.below HB0.out.size hnb hmb HA.out))
      obtain ⟨b, o, rfl, hb, hc⟩ := HR.out (by omega)
      have hcell := (HBJ.out.cell (p := ⟨b, o + k, none⟩) hb).trans (hc k _ (List.getElem?_eq_getElem hlt))
      have hvk := HV.out _ (List.getElem_mem hlt)
      have hMl := (HOK.out.meets (vs.take k)).len
      have HTK := hid (toK_succ (h := h) (M := M) hlt)
      have HMT := hid (meets_take (h := h) (M := M) hlt)
      obtain ⟨x, hx⟩ : ∃ x, x = vs[k] := ⟨_, rfl⟩
      rw [← hx] at hcell hvk HTK HMT
      obtain ⟨y, hy⟩ : ∃ y, y = cnV h (meetL h (meets h M (vs.take k)) x) x := ⟨_, rfl⟩
      rw [← hy] at HTK
      have HY := hid hy
      clear hc hx hy
      go_wp2_with fail
      refine (number6_any h _ x nb mb A1 c1 wj HS1.out hvk hn (by omega)).mono ?_
      rintro e w2 ⟨A2, c2, rfl, hs2, ht2⟩
      rw [← HY.out]
      rw [← HMT.out] at hs2
      have ap1 := HS1.out.apart HO.out (by decide)
      have HO2 := hid (ht2.row HO.out ap1.1 ap1.2 (off_blk HF.out))
      have HF2 := hid (off_turn HF.out ht2 HO.out)
      have HT2 := hid (HT1.out.trans ht2)
      have HAL := hid (below_alloc w2 (.cells #[.int .i64 y] 3))
      have HO3 := hid (own_later HO2.out HAL.out)
      have HS3 := hid (hs2.later HAL.out)
      have HT3 := hid (HT2.out.later (HAL.out.mono HT2.out.size))
      have HN := hid (Lies.new w2 3 #[.int .i64 y])
      have hz2 : w.heap.size ≤ (w2.alloc (.cells #[.int .i64 y] 3)).heap.size := HT3.out.size
      clear ap1 hs2 ht2 hcell hvk
      go_wp2_with (at_builtin; refine wpList_append_one_at rfl (.tmp 14) (.tmp 18) rfl w.heap.size _ _ _ rfl HO3.out _ _ rfl HN.out (by omega) hz2 ?_)
      intro v' w' h1 h2 h3
      obtain ⟨A4, c4, rfl⟩ := own_form h1
      have hps := congrArg List.length HTK.out
      rw [List.length_append, List.length_singleton] at hps
      have h1 : w'.ownsRow w.heap.size 3 1 (.slice A4 (toK h M vs (k + 1)).length c4) (toK h M vs (k + 1)).length ((toK h M vs (k + 1)).map (Value.int .i64)) := by rw [hps, HTK.out, List.map_append]; exact h1
      have ap3 := HS3.out.apart HO3.out (by decide)
      have hs4 := HS3.out.grown h2 (fun e => ap3.1 e.symm) (fun e => ap3.2 e.symm) (fun a ha e => off_blk HF2.out a ha e.symm)
      have hb4 : Below w.heap.size (w2.alloc (.cells #[.int .i64 y] 3)) w' := ⟨h2.os, h2.tape, h2.output, h2.size, fun q hq => h2.block q (by omega) fun e => by have := (HO3.out.lt q e.symm).1; omega⟩
      have ht4 := HT3.out.later hb4
      have hf4 := off_grow HF2.out (fun a ha => by obtain ⟨cur, hl⟩ := HS3.out.rowBlock ha; exact hl.lt) (by simpa using h3)
      have H1 := hid h1
      have HS4 := hid hs4
      have HT4 := hid ht4
      have HF4 := hid hf4
      have HPL := hid hps
      clear h1 h2 h3 hs4 ht4 hf4 hb4 ap3 hps
      go_wp2_with fail
      go_roundw
      case rel => exact ⟨k + 1, A2, A4, c2, c4, by omega, by go_num, by rw [HPL.out], HS4.out, HT4.out, H1.out, HF4.out⟩
      case measure => simp [intOf]; omega
    · obtain rfl : k = vs.length := by omega
      go_wp2_with fail
      go_ret
      have hO := HO.out
      have hS := HS1.out
      rw [toK_all] at hO
      rw [List.take_length] at hS
      exact ⟨A1, c1, S1, d1, by rw [toK_all]; rfl, hS, HT1.out, hO, HF.out⟩
end Go.Proofs.Ytjpibkcbgogfoaa
