/- The document's reader of bytes: so many bytes, the number that they are, a number of four bytes. The document's reader: the number that bytes are, a number of four bytes. The document's reader: how many numbers, and each. The document's reader: a list of numbers. The document's reader: an object. The document's reader: many objects, step by step; how many there can be. -/
import Derived.Test.YthggafdfglojaaaKA8
import Derived.Test.YthggafdfglojaaaQD
import Derived.Maps.AppendAt
import Derived.Test.YthggafdfglojaaaAP
namespace Go.Proofs.Ythggafdfglojaaa
open Go.RowKit
set_option maxRecDepth 100000
/-- bytes as a text -/
def str (l : List UInt8) : ByteArray := ⟨l.toArray⟩
theorem str_size (l : List UInt8) : (str l).size = l.length := by simp [str, ByteArray.size]
theorem str_list (s : ByteArray) : str s.data.toList = s := by cases s; simp [str]
theorem list_str (l : List UInt8) : (str l).data.toList = l := by simp [str]
theorem str_extract (l : List UInt8) (i j : Nat) : (str l).extract i j = str ((l.take j).drop i) := by
  apply ByteArray.ext
  apply Array.toList_inj.1
  rw [ByteArray.data_extract, Array.toList_extract, List.extract_eq_take_drop, list_str, list_str, List.drop_take]
theorem str_append (a b : List UInt8) : str a ++ str b = str (a ++ b) := by
  apply ByteArray.ext
  apply Array.toList_inj.1
  rw [ByteArray.data_append, Array.toList_append, list_str, list_str, list_str]
theorem str_at (l : List UInt8) (k : Nat) (_h : k < (str l).size) (h' : k < l.length) : (str l)[k] = l[k] := by
  show (str l).data[k] = _
  simp [str]
theorem byL_str (l : List UInt8) : byL (str l) = l.map UInt8.toNat := by unfold byL; rw [list_str]
/-- only block g has changed, and what is new -/
abbrev Only (g : Nat) (w w' : World) : Prop := w.grownBy w' (some g)
theorem only_set (w : World) (g i : Nat) (v : Value) : Only g w (w.setCell ⟨g, i, none⟩ v) :=
  ⟨rfl, rfl, rfl, by simp, fun k _ hk => Below.heap_setCell w _ v k (by intro e; exact hk (by rw [e]))⟩
theorem only_below {g : Nat} {w w' : World} (h : Below w.heap.size w w') : Only g w w' := ⟨h.os, h.tape, h.output, h.size, fun k hk _ => h.block k hk⟩
theorem Only.lies {g k : Nat} {w w' : World} {t : TypeId} {cs : Array Value} (h : Only g w w') (hl : Lies w k t cs) (hne : k ≠ g) : Lies w' k t cs := by
  show w'.heap[k]? = _
  rw [h.block k hl.lt (by intro e; injection e with e; exact hne e)]; exact hl
theorem Only.own {g : Nat} {w w' : World} {base : Nat} {e : TypeId} {size n : Nat} {v : Value} {xs : List Value} (h : Only g w w') (ho : w.ownsRow base e size v n xs) (hne : v.ownBlock ≠ some g) : w'.ownsRow base e size v n xs :=
  ho.kept h (.inr hne)
theorem Only.from_ {B g : Nat} {w0 w w' : World} (h : Only g w w') (hb : Below B w0 w) (hg : B ≤ g) (hB : B ≤ w.heap.size) : Below B w0 w' :=
  hb.grown h hB (fun k hk => by injection hk with hk; omega)
/-- a reader in memory -/
def rdC (r : Rd) : Array Value := #[.string (str r.s), .bool r.bad]
abbrev RdL (w : World) (g : Nat) (r : Rd) : Prop := Lies w g 75 (rdC r)
def Took (g : Nat) (w : World) (r : Rd) (v : Value) (e : Ending) (w' : World) : Prop := e = .returned v ∧ RdL w' g r ∧ Only g w w'
set_option maxHeartbeats 1000000 in
theorem take_any (r : Rd) (n : Int) (g : Nat) (w : World) (hr : RdL w g r) (_hl : r.s.length ≤ 9223372036854775807) :
    Calls Try.prog 69 #[.pointer (some ⟨g, 0, none⟩), .int .i64 n] w (Took g w (tkR n r) (.string (str (tkS n r)))) := by
  have HR := hid hr
  have c0 := hr.cell 0
  have c1 := hr.cell 1
  have f0 := hr.frozen 0
  have f1 := hr.frozen 1
  simp only [rdC, List.getElem?_toArray, List.getElem?_cons_zero, List.getElem?_cons_succ] at c0 c1
  have hz : str [] = ⟨#[]⟩ := rfl
  have hsz := str_size r.s
  have bad : ∀ (h : r.bad = true ∨ n < 0 ∨ (r.s.length : Int) < n), Took g w (tkR n r) (.string (str (tkS n r))) (.returned (.string ⟨#[]⟩)) (w.setCell ⟨g, 1, none⟩ (.bool true)) := fun h => by
    have e1 : tkR n r = ⟨r.s, true⟩ := if_pos h
    have e2 : tkS n r = [] := if_pos h
    rw [e1, e2, hz]
    exact ⟨rfl, HR.out.set_ 1 (.bool true), only_set _ _ _ _⟩
  have HBAD := hid bad
  clear bad hr
  cases hb : r.bad
  · by_cases h0 : n < 0
    · have hB := HBAD.out (.inr (.inl h0))
      have HBB := hid hB
      rw [hb] at c1
      clear hB HBAD
      go_enter Try.func69, Try.ntmps69
      go_wp2
      go_ret
      exact HBB.out
    · by_cases h1 : (r.s.length : Int) < n
      · have hB := HBAD.out (.inr (.inr h1))
        have HBB := hid hB
        rw [hb] at c1
        clear hB HBAD
        go_enter Try.func69, Try.ntmps69
        go_wp2
        go_ret
        exact HBB.out
      · obtain ⟨m, rfl⟩ : ∃ m : Nat, n = m := ⟨n.toNat, by omega⟩
        have hml : m ≤ r.s.length := by omega
        have hms : m ≤ (str r.s).size := by omega
        have hmI : (m : Int) ≤ (r.s.length : Int) := by omega
        have hno : ¬ (r.bad = true ∨ (m : Int) < 0 ∨ (r.s.length : Int) < m) := by rw [hb]; simp; omega
        have e1 : tkR m r = ⟨r.s.drop m, false⟩ := if_neg hno
        have e2 : tkS m r = r.s.take m := if_neg hno
        have x1 := str_extract r.s 0 m
        have x2 := str_extract r.s m r.s.length
        rw [List.drop_zero] at x1
        rw [List.take_length] at x2
        have HG : Hid (Took g w (tkR m r) (.string (str (tkS m r))) (.returned (.string (str (r.s.take m)))) (w.setCell ⟨g, 0, none⟩ (.string (str (r.s.drop m))))) := by
          show Took _ _ _ _ _ _
          rw [e1, e2]
          refine ⟨rfl, ?_, only_set _ _ _ _⟩
          have := HR.out.set_ 0 (.string (str (r.s.drop m)))
          have e3 : (rdC r).setIfInBounds 0 (.string (str (r.s.drop m))) = rdC ⟨r.s.drop m, false⟩ := by unfold rdC; rw [hb]; rfl
          rw [e3] at this
          exact this
        rw [hb] at c1
        clear HBAD e1 e2 hno
        go_enter Try.func69, Try.ntmps69
        go_wp2
        go_ret
        exact HG.out
  · have hB := HBAD.out (.inl hb)
    have HBB := hid hB
    rw [hb] at c1
    clear hB HBAD
    go_enter Try.func69, Try.ntmps69
    go_wp2
    go_ret
    exact HBB.out
end Go.Proofs.Ythggafdfglojaaa
namespace Go.Proofs.Ythggafdfglojaaa
open Go.RowKit
set_option maxRecDepth 100000
theorem pl_bound (l : List UInt8) (h : l.length ≤ 7) : ∃ v : Nat, plN8 l = (v : Int) ∧ v < 256 ^ l.length := by
  induction l with
  | nil => exact ⟨0, rfl, by decide⟩
  | cons b l ih =>
    obtain ⟨v, hv, hb⟩ := ih (by simp at h; omega)
    have hbt := b.toNat_lt
    have h7 : 256 ^ l.length ≤ 256 ^ 6 := Nat.pow_le_pow_right (by decide) (by simp at h; omega)
    have h6 : (256 : Nat) ^ 6 = 281474976710656 := by decide
    refine ⟨v * 256 + b.toNat, ?_, ?_⟩
    · show wrap64 (plN8 l * 256 + (b.toNat : Int)) = _
      rw [hv, wrap64_fit (by omega) (by omega)]; omega
    · rw [List.length_cons, Nat.pow_succ]; omega
theorem wrap_is (x : Int) : IntKind.i64.wrap x = wrap64 x := by rw [IntKind.wrap_i64]; unfold wrap64; rfl
theorem or_byte (v c : Nat) (hv : v < 72057594037927936) (hc : c < 256) : bits .or .i64 (wrap64 ((v * 256 : Nat) : Int)) (c : Int) = wrap64 ((v * 256 + c : Nat) : Int) := by
  show IntKind.i64.wrap ((BitVec.ofInt 64 (wrap64 ((v * 256 : Nat) : Int)) ||| BitVec.ofInt 64 (c : Int)).toNat : Nat) = _
  have e64 : (2 : Nat) ^ 64 = 18446744073709551616 := by decide
  have e1 : (BitVec.ofInt 64 (wrap64 ((v * 256 : Nat) : Int))).toNat = v * 256 := by
    rw [BitVec.toNat_ofInt, e64]
    have h : wrap64 ((v * 256 : Nat) : Int) % ((18446744073709551616 : Nat) : Int) = ((v * 256 : Nat) : Int) := by
      unfold wrap64; omega
    rw [h, Int.toNat_natCast]
  have e2 : (BitVec.ofInt 64 (c : Int)).toNat = c := by
    rw [BitVec.toNat_ofInt, e64]
    have h : (c : Int) % ((18446744073709551616 : Nat) : Int) = c := by omega
    rw [h, Int.toNat_natCast]
  have e3 : v * 256 ||| c = v * 256 + c := by
    have := Nat.two_pow_add_eq_or_of_lt (i := 8) (b := c) hc v
    rw [Nat.mul_comm v 256]
    exact this.symm
  rw [BitVec.toNat_or, e1, e2, e3, wrap_is]
set_option maxHeartbeats 1000000 in
theorem plain_any (l : List UInt8) (hl : l.length ≤ 8) (w : World) : Calls Try.prog 103 #[.string (str l)] w fun e w' => e = .returned (.int .i64 (plN8 l)) ∧ w = w' := by
  have hsz := str_size l
  have hw0 : wrap64 ((l.length : Int) - 1) = (l.length : Int) - 1 := wrap64_fit (by omega) (by omega)
  have hw1 : IntKind.i64.wrap ((l.length : Int) - 1) = (l.length : Int) - 1 := IntWalk.i64_in _ ⟨by omega, by omega⟩
  go_enter Try.func103, Try.ntmps103
  go_wp2
  go_loop [4, 3] (fun i n => ∃ k : Nat, k ≤ l.length ∧ i = .int .i64 ((k : Int) - 1) ∧ n = .int .i64 (plN8 (l.drop k))) (fun i _ => (intOf i + 1).toNat)
  case atStart => exact ⟨l.length, Nat.le_refl _, by first | rfl | rw [hw0], by rw [List.drop_length]; rfl⟩
  case round =>
    obtain ⟨k, hk, rfl, rfl⟩ := hrel
    by_cases h0 : k = 0
    · subst h0
      rw [List.drop_zero]
      go_wp2
      go_ret
      exact ⟨rfl, rfl⟩
    · obtain ⟨j, rfl⟩ : ∃ j, k = j + 1 := ⟨k - 1, by omega⟩
      have hj : j < l.length := by omega
      have hjs : j < (str l).size := by omega
      obtain ⟨v, hv, hb⟩ := pl_bound (l.drop (j + 1)) (by rw [List.length_drop]; omega)
      have hb7 : v < 72057594037927936 := by
        have h7 : 256 ^ (l.drop (j + 1)).length ≤ 256 ^ 7 := Nat.pow_le_pow_right (by decide) (by rw [List.length_drop]; omega)
        have h6 : (256 : Nat) ^ 7 = 72057594037927936 := by decide
        omega
      rw [hv]
      have e0 : ((j + 1 : Nat) : Int) - 1 = (j : Int) := by omega
      rw [e0]
      obtain ⟨c, hc⟩ : ∃ c, c = (l[j]'hj).toNat := ⟨_, rfl⟩
      have hcl : c < 256 := by rw [hc]; exact (l[j]'hj).toNat_lt
      have e1 : (((str l)[j]'hjs).toNat : Int) = (c : Int) := (congrArg (fun b : UInt8 => (b.toNat : Int)) (str_at l j hjs hj)).trans (by rw [hc])
      obtain ⟨v1, hv1⟩ : ∃ v1, v1 = wrap64 ((v * 256 : Nat) : Int) := ⟨_, rfl⟩
      have e2 : wrap64 ((v : Int) * 256) = v1 := by rw [hv1]; congr 1
      have e2' : IntKind.i64.wrap ((v : Int) * 256) = v1 := by rw [← e2]; exact wrap_is _
      have e3 : bits .or .i64 v1 (c : Int) = plN8 (l.drop j) := by
        rw [hv1, or_byte v c hb7 hcl, List.drop_eq_getElem_cons hj]
        show _ = wrap64 (plN8 (l.drop (j + 1)) * 256 + ((l[j]'hj).toNat : Int))
        rw [hv, hc]; congr 1
      have e4 : wrap64 (c : Int) = c := wrap64_fit (by omega) (by omega)
      have e5 : wrap64 ((j : Int) - 1) = (j : Int) - 1 := wrap64_fit (by omega) (by omega)
      have e6 : IntKind.i64.wrap ((j : Int) - 1) = (j : Int) - 1 := IntWalk.i64_in _ ⟨by omega, by omega⟩
      obtain ⟨z, hz⟩ : ∃ z, z = plN8 (l.drop j) := ⟨_, rfl⟩
      have HZ := hid hz
      rw [← hz] at e3
      clear hz hc hv1 hv hb hb7 hcl
      go_wp2
      go_round
      case rel => exact ⟨j, by omega, by first | rfl | (rw [e5]), by rw [← HZ.out]⟩
      case measure => simp only [intOf]; omega
def NumP (g : Nat) (w : World) (r : Rd) (e : Ending) (w' : World) : Prop := e = .returned (.int .i64 (nmV r)) ∧ RdL w' g (nmR r) ∧ Only g w w'
theorem tk_len (r : Rd) (n : Int) : (tkS n r).length ≤ n.toNat := by
  unfold tkS
  split
  · simp
  · rw [List.length_take]; omega
theorem tkR_len (r : Rd) (n : Int) : (tkR n r).s.length ≤ r.s.length := by
  unfold tkR
  split
  · exact Nat.le_refl _
  · simp
set_option maxHeartbeats 1000000 in
theorem num_any8 (r : Rd) (g : Nat) (w : World) (hr : RdL w g r) (hl : r.s.length ≤ 9223372036854775807) :
    Calls Try.prog 70 #[.pointer (some ⟨g, 0, none⟩)] w (NumP g w r) := by
  have hq : (tkS 4 r).length ≤ 8 := Nat.le_trans (tk_len r 4) (by decide)
  obtain ⟨v, hv⟩ : ∃ v, v = plN8 (tkS 4 r) := ⟨_, rfl⟩
  have HV := hid hv
  have HR := hid hr
  by_cases h : 2147483648 ≤ v
  · have HN : Hid (nmV r = v - 4294967296) := by show nmV r = _; unfold nmV sgn; rw [← hv, if_pos h]
    have hw1 : IntKind.i64.wrap (v - 4294967296) = v - 4294967296 := by
      obtain ⟨u, hu, hub⟩ := pl_bound (tkS 4 r) (Nat.le_trans (tk_len r 4) (by decide))
      have : 256 ^ (tkS 4 r).length ≤ 256 ^ 4 := Nat.pow_le_pow_right (by decide) (tk_len r 4)
      have h4 : (256 : Nat) ^ 4 = 4294967296 := by decide
      exact IntWalk.i64_in _ ⟨by omega, by omega⟩
    clear hv hr
    go_enter Try.func70, Try.ntmps70
    go_wp2_with fail
    refine (take_any r 4 g _ HR.out hl).mono ?_
    rintro e w1 ⟨rfl, h1, h2⟩
    have H1 := hid h1
    have H2 := hid h2
    clear h1 h2
    go_wp2_with fail
    refine (plain_any (tkS 4 r) hq _).mono ?_
    rintro e w2 ⟨rfl, rfl⟩
    rw [← HV.out]
    go_wp2_with fail
    go_ret
    exact ⟨by rw [HN.out]; rfl, H1.out, H2.out⟩
  · have HN : Hid (nmV r = v) := by show nmV r = _; unfold nmV sgn; rw [← hv, if_neg h]
    clear hv hr
    go_enter Try.func70, Try.ntmps70
    go_wp2_with fail
    refine (take_any r 4 g _ HR.out hl).mono ?_
    rintro e w1 ⟨rfl, h1, h2⟩
    have H1 := hid h1
    have H2 := hid h2
    clear h1 h2
    go_wp2_with fail
    refine (plain_any (tkS 4 r) hq _).mono ?_
    rintro e w2 ⟨rfl, rfl⟩
    rw [← HV.out]
    go_wp2_with fail
    go_ret
    exact ⟨by rw [HN.out]; rfl, H1.out, H2.out⟩
end Go.Proofs.Ythggafdfglojaaa
namespace Go.Proofs.Ythggafdfglojaaa
open Go.RowKit
set_option maxRecDepth 100000
/-- behind k numbers at most -/
theorem nms_step (k : Nat) (r : Rd) : nmsV (k + 1) r = nmsV k r ++ (if (nmsR k r).bad then [] else [nmV (nmsR k r)]) ∧ nmsR (k + 1) r = (if (nmsR k r).bad then nmsR k r else nmR (nmsR k r)) := by
  induction k generalizing r with
  | zero =>
    show (if r.bad then [] else nmV r :: nmsV 0 (nmR r)) = [] ++ _ ∧ (if r.bad then r else nmsR 0 (nmR r)) = _
    cases hb : r.bad <;> simp [nmsV, nmsR, hb]
  | succ k ih =>
    obtain ⟨i1, i2⟩ := ih (nmR r)
    cases hb : r.bad
    · have e1 : nmsV (k + 1 + 1) r = nmV r :: nmsV (k + 1) (nmR r) := by
        show (if r.bad then [] else _) = _
        rw [hb]; rfl
      have e2 : nmsR (k + 1 + 1) r = nmsR (k + 1) (nmR r) := by
        show (if r.bad then r else _) = _
        rw [hb]; rfl
      have e3 : nmsV (k + 1) r = nmV r :: nmsV k (nmR r) := by
        show (if r.bad then [] else _) = _
        rw [hb]; rfl
      have e4 : nmsR (k + 1) r = nmsR k (nmR r) := by
        show (if r.bad then r else _) = _
        rw [hb]; rfl
      rw [e1, e2, e3, e4, i1, i2]
      exact ⟨rfl, rfl⟩
    · have e1 : ∀ j, nmsV (j + 1) r = [] := fun j => by
        show (if r.bad then [] else _) = _
        rw [hb]; rfl
      have e2 : ∀ j, nmsR (j + 1) r = r := fun j => by
        show (if r.bad then r else _) = _
        rw [hb]; rfl
      rw [e1 (k + 1), e2 (k + 1), e1 k, e2 k, hb]
      exact ⟨rfl, rfl⟩
theorem nms_len (k : Nat) (r : Rd) : (nmsR k r).s.length ≤ r.s.length := by
  induction k generalizing r with
  | zero => exact Nat.le_refl _
  | succ k ih =>
    show (if r.bad then r else nmsR k (nmR r)).s.length ≤ _
    split
    · exact Nat.le_refl _
    · exact Nat.le_trans (ih (nmR r)) (tkR_len r 4)
/-- each number read takes four bytes -/
theorem nm_less (r : Rd) (h : (nmR r).bad = false) : (nmR r).s.length + 4 = r.s.length := by
  unfold nmR tkR at h ⊢
  split at h
  · cases h
  · rename_i hn
    rw [if_neg hn]
    simp only [not_or, Int.not_lt] at hn
    rw [List.length_drop]
    have := hn.2.2
    have e : (4 : Int).toNat = 4 := rfl
    rw [e]; omega
theorem nms_short (k : Nat) (r : Rd) : (nmsV k r).length * 4 + (nmsR k r).s.length ≤ r.s.length + 4 := by
  induction k generalizing r with
  | zero => simp [nmsV, nmsR]
  | succ k ih =>
    cases hb : r.bad
    · have e1 : nmsV (k + 1) r = nmV r :: nmsV k (nmR r) := by
        show (if r.bad then [] else _) = _
        rw [hb]; rfl
      have e2 : nmsR (k + 1) r = nmsR k (nmR r) := by
        show (if r.bad then r else _) = _
        rw [hb]; rfl
      rw [e1, e2, List.length_cons]
      cases hq : (nmR r).bad
      · have := ih (nmR r)
        have := nm_less r hq
        omega
      · have h1 : nmsV k (nmR r) = [] := by
          cases k with
          | zero => rfl
          | succ k => show (if (nmR r).bad then [] else _) = _; rw [hq]; rfl
        have h2 : nmsR k (nmR r) = nmR r := by
          cases k with
          | zero => rfl
          | succ k => show (if (nmR r).bad then _ else _) = _; rw [hq]; rfl
        rw [h1, h2]
        have := tkR_len r 4
        show (0 + 1) * 4 + (nmR r).s.length ≤ _
        unfold nmR; omega
    · have e1 : nmsV (k + 1) r = [] := by
        show (if r.bad then [] else _) = _
        rw [hb]; rfl
      have e2 : nmsR (k + 1) r = r := by
        show (if r.bad then r else _) = _
        rw [hb]; rfl
      rw [e1, e2]; simp
end Go.Proofs.Ythggafdfglojaaa
namespace Go.Proofs.Ythggafdfglojaaa
open Go.RowKit
set_option maxRecDepth 100000
theorem nms_stop (k n : Nat) (r : Rd) (h : (nmsR k r).bad = true) (hn : k ≤ n) : nmsV n r = nmsV k r ∧ nmsR n r = nmsR k r := by
  induction n with
  | zero => obtain rfl : k = 0 := by omega
            exact ⟨rfl, rfl⟩
  | succ n ih =>
    by_cases e : k = n + 1
    · subst e; exact ⟨rfl, rfl⟩
    · obtain ⟨i1, i2⟩ := ih (by omega)
      obtain ⟨s1, s2⟩ := nms_step n r
      rw [i2, h] at s1 s2
      simp only [if_true, List.append_nil] at s1 s2
      exact ⟨s1.trans i1, s2⟩
theorem Only.grown {g : Nat} {w w1 w2 : World} {row : Option Nat} (h : Only g w w1) (h2 : w1.grownBy w2 row) (hr : ∀ j, row = some j → w.heap.size ≤ j) : Only g w w2 :=
  ⟨h2.os.trans h.os, h2.tape.trans h.tape, h2.output.trans h.output, Nat.le_trans h.size h2.size, fun k hk hne => (h2.block k (Nat.lt_of_lt_of_le hk h.size) (fun e => by have := hr k e.symm; omega)).trans (h.block k hk hne)⟩
theorem Only.then_ {g : Nat} {w w1 w2 : World} (h : Only g w w1) (h2 : Only g w1 w2) : Only g w w2 := h.trans h2
theorem own_off {w : World} {base g : Nat} {e : TypeId} {size n : Nat} {v : Value} {xs : List Value} (h : w.ownsRow base e size v n xs) (hg : g < base) : v.ownBlock ≠ some g := fun he => by
  have := (h.lt g he).1; omega
theorem lies_grown {w w2 : World} {row : Option Nat} {g : Nat} {t : TypeId} {cs : Array Value} (h2 : w.grownBy w2 row) (hl : Lies w g t cs) (hne : row ≠ some g) : Lies w2 g t cs := by
  show w2.heap[g]? = _
  rw [h2.block g hl.lt (fun e => hne e.symm)]; exact hl
theorem nm_range (r : Rd) : -2147483648 ≤ nmV r ∧ nmV r < 2147483648 := by
  obtain ⟨v, hv, hb⟩ := pl_bound (tkS 4 r) (Nat.le_trans (tk_len r 4) (by decide))
  have h1 : 256 ^ (tkS 4 r).length ≤ 256 ^ 4 := Nat.pow_le_pow_right (by decide) (tk_len r 4)
  have h4 : (256 : Nat) ^ 4 = 4294967296 := by decide
  rw [h4] at h1
  unfold nmV sgn
  rw [hv]
  split <;> omega
def ListP (g : Nat) (w : World) (r : Rd) (e : Ending) (w' : World) : Prop :=
  ∃ A c, e = .returned (.slice A (lsV r).length c) ∧ w'.ownsRow w.heap.size 3 1 (.slice A (lsV r).length c) (lsV r).length ((lsV r).map (Value.int .i64)) ∧ RdL w' g (lsR r) ∧ Only g w w'
set_option maxHeartbeats 2000000 in
theorem list_any8 (r : Rd) (g : Nat) (w : World) (hr : RdL w g r) (hl : r.s.length ≤ 100000) :
    Calls Try.prog 72 #[.pointer (some ⟨g, 0, none⟩)] w (ListP g w r) := by
  have hgw : g < w.heap.size := hr.lt
  have EE := hid (own_empty w)
  have HR0 := hid (hr.alloc (.cells #[] 3))
  have HO0 := hid (only_below (g := g) (below_alloc w (.cells #[] 3)))
  have hl2 : (nmR r).s.length ≤ 100000 := Nat.le_trans (tkR_len r 4) hl
  clear hr
  go_enter Try.func72, Try.ntmps72
  go_wp2_with fail
  refine (num_any8 r g _ HR0.out (by omega)).mono ?_
  rintro e w1 ⟨rfl, h1, h2⟩
  have hnr := nm_range r
  obtain ⟨n, hn⟩ : ∃ n, n = nmV r := ⟨_, rfl⟩
  rw [← hn] at hnr
  obtain ⟨hnr0, hnr1⟩ := hnr
  have HNN := hid hn
  rw [← hn]
  have HO1 := hid (HO0.out.then_ h2)
  have HE1 := hid (h2.own EE.out (own_off EE.out hgw))
  have HR1 := hid h1
  clear h1 h2 hn
  have c1 := HR1.out.cell 1
  have f1 := HR1.out.frozen 1
  simp only [rdC, List.getElem?_toArray, List.getElem?_cons_zero, List.getElem?_cons_succ] at c1
  obtain ⟨r2, hr2⟩ : ∃ r2, r2 = lsI r := ⟨_, rfl⟩
  have HR2E := hid hr2
  have HLV : Hid (lsV r = nmsV n.toNat r2) := by show _ = _; rw [hr2, HNN.out]; rfl
  have HLR : Hid (lsR r = nmsR n.toNat r2) := by show _ = _; rw [hr2, HNN.out]; rfl
  have hl3 : r2.s.length ≤ 100000 := by
    rw [hr2]; unfold lsI
    split <;> exact hl2
  have main : ∀ (w2 : World), RdL w2 g r2 → Only g w w2 → w2.ownsRow w.heap.size 3 1 (.slice (some ⟨w.heap.size, 0, none⟩) 0 0) 0 (([] : List Int).map (Value.int .i64)) → True := fun _ _ _ _ => trivial
  clear main hr2
  by_cases hneg : n < 0
  · have hz : n.toNat = 0 := by omega
    have E2 : Hid (r2 = ⟨(nmR r).s, true⟩) := by show _ = _; rw [HR2E.out]; unfold lsI; rw [← HNN.out, if_pos hneg]
    have HV0 : Hid (lsV r = []) := by show _ = _; rw [HLV.out, hz]; rfl
    have HR3 : Hid (RdL (w1.setCell ⟨g, 1, none⟩ (.bool true)) g (lsR r)) := by
      show Lies _ _ _ _
      rw [HLR.out, hz]
      show Lies _ _ _ (rdC r2)
      rw [E2.out]
      exact HR1.out.set_ 1 (.bool true)
    have HO3 := hid (HO1.out.then_ (only_set w1 g 1 (.bool true)))
    have HE3 := hid ((only_set w1 g 1 (.bool true)).own HE1.out (own_off HE1.out hgw))
    clear hz
    go_wp2
    go_loopw [5, 3] (fun i x wr => i = .int .i64 0 ∧ x = .slice (some ⟨w.heap.size, 0, none⟩) 0 0 ∧ wr = w1.setCell ⟨g, 1, none⟩ (.bool true)) (fun _ _ _ => 0)
    case atStart => exact ⟨rfl, rfl, rfl⟩
    case round =>
      obtain ⟨rfl, rfl, rfl⟩ := hrel
      have hneg' : ¬ (0 : Int) < n := by omega
      go_wp2
      go_ret
      refine ⟨some ⟨w.heap.size, 0, none⟩, 0, ?_, ?_, HR3.out, HO3.out⟩
      · rw [HV0.out]; rfl
      · rw [HV0.out]; exact HE3.out
  · have E2 : Hid (r2 = nmR r) := by show _ = _; rw [HR2E.out]; unfold lsI; rw [← HNN.out, if_neg hneg]
    have HR3 : Hid (RdL w1 g r2) := by show RdL _ _ _; rw [E2.out]; exact HR1.out
    go_wp2
    go_loopw [5, 3] (fun i x wr => ∃ (k : Nat) (A : Option Addr) (c : Nat), k ≤ n.toNat ∧ i = .int .i64 k ∧ x = .slice A (nmsV k r2).length c ∧ wr.ownsRow w.heap.size 3 1 (.slice A (nmsV k r2).length c) (nmsV k r2).length ((nmsV k r2).map (Value.int .i64)) ∧ RdL wr g (nmsR k r2) ∧ Only g w wr) (fun i _ _ => n.toNat - (intOf i).toNat)
    case atStart => exact ⟨0, _, _, Nat.zero_le _, rfl, rfl, HE1.out, HR3.out, HO1.out⟩
    case round =>
      obtain ⟨k, A, c, hk, rfl, rfl, hown, hrd, honl⟩ := hrel
      have HO := hid hown
      have HD := hid hrd
      have HY := hid honl
      have d1 := hrd.cell 1
      simp only [rdC, List.getElem?_toArray, List.getElem?_cons_zero, List.getElem?_cons_succ] at d1
      have hsh := nms_short k r2
      have hln := nms_len k r2
      obtain ⟨m, hm⟩ : ∃ m, m = (nmsV k r2).length := ⟨_, rfl⟩
      have HM := hid hm
      obtain ⟨q, hq⟩ : ∃ q, q = nmsR k r2 := ⟨_, rfl⟩
      have HQ := hid hq
      rw [← hm] at HO hsh ⊢
      rw [← hq] at HD d1 hln
      clear hown hrd honl hm hq
      by_cases hlt : k < n.toNat
      · have hltI : (k : Int) < n := by omega
        cases hb : q.bad
        · obtain ⟨s1, s2⟩ := nms_step k r2
          rw [← HQ.out, hb] at s1 s2
          obtain ⟨y, hy⟩ : ∃ y, y = nmV q := ⟨_, rfl⟩
          have HYY := hid hy
          simp only [Bool.false_eq_true, if_false] at s1 s2
          rw [← hy] at s1
          have S1 := hid s1
          have S2 := hid s2
          rw [hb] at d1
          clear s1 s2 hy
          go_wp2_with fail
          refine (num_any8 q g _ HD.out (by omega)).mono ?_
          rintro e w2 ⟨rfl, h1, h2⟩
          rw [← HYY.out]
          have HO2 := hid (own_later (h2.own HO.out (own_off HO.out hgw)) (below_alloc w2 (.cells #[.int .i64 y] 3)))
          have HD2 := hid (h1.alloc (.cells #[.int .i64 y] 3))
          have HY2 := hid ((HY.out.then_ h2).then_ (only_below (below_alloc w2 (.cells #[.int .i64 y] 3))))
          have HN := hid (Lies.new w2 3 #[.int .i64 y])
          have hz2 : w.heap.size ≤ (w2.alloc (.cells #[.int .i64 y] 3)).heap.size := HY2.out.size
          clear h1 h2
          go_wp2_with (at_builtin; refine wpList_append_one rfl (.tmp 26) (.tmp 29) rfl w.heap.size _ _ _ rfl HO2.out _ _ rfl HN.out (by omega) hz2 ?_)
          intro v' w' h1 h2
          obtain ⟨A2, c2, rfl⟩ := own_form h1
          have el : (nmsV (k + 1) r2).length = m + 1 := by rw [S1.out, List.length_append, HM.out]; rfl
          have H1 : Hid (w'.ownsRow w.heap.size 3 1 (.slice A2 (nmsV (k + 1) r2).length c2) (nmsV (k + 1) r2).length ((nmsV (k + 1) r2).map (Value.int .i64))) := by
            show World.ownsRow _ _ _ _ _ _ _
            rw [el, S1.out, List.map_append]; exact h1
          have H2 : Hid (RdL w' g (nmsR (k + 1) r2)) := by
            show Lies _ _ _ _
            rw [S2.out]; exact lies_grown h2 HD2.out (own_off HO2.out hgw)
          have H3 := hid (HY2.out.grown h2 (fun j hj => (HO2.out.lt j hj).1))
          have hval : ∀ z : Value, z = .slice A2 (m + 1) c2 → z = .slice A2 (nmsV (k + 1) r2).length c2 := fun z hz => by rw [el]; exact hz
          have HVAL := hid hval
          clear h1 h2 hval el
          go_wp2_with fail
          go_roundw
          case rel => exact ⟨k + 1, A2, c2, by omega, by go_num, HVAL.out _ rfl, H1.out, H2.out, H3.out⟩
          case measure => simp only [intOf]; omega
        · have hst := nms_stop k n.toNat r2 (by rw [← HQ.out]; exact hb) hk
          have HS := hid hst
          rw [hb] at d1
          clear hst
          go_wp2
          go_ret
          refine ⟨A, c, ?_, ?_, ?_, HY.out⟩
          · rw [HLV.out, HS.out.1, ← HM.out]; rfl
          · rw [HLV.out, HS.out.1, ← HM.out]; exact HO.out
          · rw [HLR.out, HS.out.2, ← HQ.out]; exact HD.out
      · obtain rfl : k = n.toNat := by omega
        have hnI : ((n.toNat : Nat) : Int) = n := by omega
        have hno : ¬ ((n.toNat : Nat) : Int) < n := by omega
        go_wp2
        go_ret
        refine ⟨A, c, ?_, ?_, ?_, HY.out⟩
        · rw [HLV.out, ← HM.out]; rfl
        · rw [HLV.out, ← HM.out]; exact HO.out
        · rw [HLR.out, ← HQ.out]; exact HD.out
end Go.Proofs.Ythggafdfglojaaa
namespace Go.Proofs.Ythggafdfglojaaa
open Go.RowKit
set_option maxRecDepth 100000
def ObjP (g : Nat) (w : World) (r : Rd) (e : Ending) (w' : World) : Prop :=
  ∃ S c, e = .returned (.agg #[.int .i64 (obV r).cls, .int .i64 (obV r).kind, .slice S (obV r).slots.length c, .string (obV r).text, .int .i64 (obV r).bits, .int .i64 (obV r).hash]) ∧ w'.ownsRow w.heap.size 3 1 (.slice S (obV r).slots.length c) (obV r).slots.length ((obV r).slots.map (Value.int .i64)) ∧ RdL w' g (obR r) ∧ Only g w w'
theorem only_in {g b i : Nat} {w w1 : World} (h : Only g w w1) (hb : w.heap.size ≤ b) (v : Value) : Only g w (w1.setCell ⟨b, i, none⟩ v) :=
  h.grown (row := some b) (only_set w1 b i v) (fun j hj => by injection hj with hj; omega)
set_option maxHeartbeats 4000000 in
theorem object_any8 (r : Rd) (g : Nat) (w : World) (hr : RdL w g r) (hl : r.s.length ≤ 100000) :
    Calls Try.prog 71 #[.pointer (some ⟨g, 0, none⟩)] w (ObjP g w r) := by
  have hgw : g < w.heap.size := hr.lt
  have hl1 : (nmR r).s.length ≤ 100000 := Nat.le_trans (tkR_len r 4) hl
  have hl2 : (nmR (nmR r)).s.length ≤ 100000 := Nat.le_trans (tkR_len (nmR r) 4) hl1
  have hl3 : (obT r).s.length ≤ 100000 := Nat.le_trans (tkR_len (nmR (nmR r)) 4) hl2
  have ng2 : w.heap.size ≠ g := by omega
  have ng3 : w.heap.size + 1 ≠ g := by omega
  have gn3 : g ≠ w.heap.size + 1 := by omega
  have n23 : w.heap.size ≠ w.heap.size + 1 := by omega
  have HR0 := hid ((hr.alloc (.cells #[.int .i64 0, .int .i64 0, .slice none 0 0, .string ⟨#[]⟩, .int .i64 0, .int .i64 0] 46)).alloc (.cells #[.int .i64 0, .int .i64 0, .slice none 0 0, .string ⟨#[]⟩, .int .i64 0, .int .i64 0] 46))
  have HY0 := hid (only_below (g := g) (below_alloc2 w (.cells #[.int .i64 0, .int .i64 0, .slice none 0 0, .string ⟨#[]⟩, .int .i64 0, .int .i64 0] 46) (.cells #[.int .i64 0, .int .i64 0, .slice none 0 0, .string ⟨#[]⟩, .int .i64 0, .int .i64 0] 46)))
  have HK0 := hid ((Lies.new w 46 #[.int .i64 0, .int .i64 0, .slice none 0 0, .string ⟨#[]⟩, .int .i64 0, .int .i64 0]).alloc (.cells #[.int .i64 0, .int .i64 0, .slice none 0 0, .string ⟨#[]⟩, .int .i64 0, .int .i64 0] 46))
  have HL0 : Hid (Lies ((w.alloc (.cells #[.int .i64 0, .int .i64 0, .slice none 0 0, .string ⟨#[]⟩, .int .i64 0, .int .i64 0] 46)).alloc (.cells #[.int .i64 0, .int .i64 0, .slice none 0 0, .string ⟨#[]⟩, .int .i64 0, .int .i64 0] 46)) (w.heap.size + 1) 46 #[.int .i64 0, .int .i64 0, .slice none 0 0, .string ⟨#[]⟩, .int .i64 0, .int .i64 0]) := by
    have := Lies.new (w.alloc (.cells #[.int .i64 0, .int .i64 0, .slice none 0 0, .string ⟨#[]⟩, .int .i64 0, .int .i64 0] 46)) 46 #[.int .i64 0, .int .i64 0, .slice none 0 0, .string ⟨#[]⟩, .int .i64 0, .int .i64 0]
    simpa [Hid] using this
  have HLG : Hid (w.heap.size ≤ w.heap.size + 1) := Nat.le_succ _
  obtain ⟨n0, hn0⟩ : ∃ n, n = nmV r := ⟨_, rfl⟩
  obtain ⟨n1, hn1⟩ : ∃ n, n = obK r := ⟨_, rfl⟩
  obtain ⟨n2, hn2⟩ : ∃ n, n = nmV (nmR (nmR r)) := ⟨_, rfl⟩
  have HN0 := hid hn0
  have HN1 := hid hn1
  have HN2 := hid hn2
  clear hr hn0 hn1 hn2
  go_enter Try.func71, Try.ntmps71
  go_wp2_with fail
  refine (num_any8 r g _ HR0.out (by omega)).mono ?_
  rintro e w1 ⟨rfl, h1, h2⟩
  rw [← HN0.out]
  have HR1 := hid h1
  have HK1 := hid (h2.lies HK0.out ng2)
  have HL1 := hid (h2.lies HL0.out ng3)
  have HY1 := hid (HY0.out.then_ h2)
  clear h1 h2
  have l0 := HL1.out.cell 0
  have lf0 := HL1.out.frozen 0
  simp only [List.getElem?_toArray, List.getElem?_cons_zero] at l0
  have HR2 := hid (HR1.out.far (p := ⟨w.heap.size + 1, 0, none⟩) gn3 (.int .i64 n0))
  have HK2 := hid (HK1.out.far (p := ⟨w.heap.size + 1, 0, none⟩) n23 (.int .i64 n0))
  have HL2 := hid (HL1.out.set_ 0 (.int .i64 n0))
  have HY2 := hid (only_in (b := w.heap.size + 1) (i := 0) HY1.out HLG.out (.int .i64 n0))
  simp only [List.setIfInBounds_toArray, List.set_cons_zero] at HL2
  go_wp2_with fail
  refine (num_any8 (nmR r) g _ HR2.out (by omega)).mono ?_
  rintro e w3 ⟨rfl, h1, h2⟩
  rw [show nmV (nmR r) = n1 from HN1.out.symm]
  have HR3 := hid h1
  have HK3 := hid (h2.lies HK2.out ng2)
  have HL3 := hid (h2.lies HL2.out ng3)
  have HY3 := hid (HY2.out.then_ h2)
  clear h1 h2
  have l1 := HL3.out.cell 1
  have lf1 := HL3.out.frozen 1
  simp only [List.getElem?_toArray, List.getElem?_cons_zero, List.getElem?_cons_succ] at l1
  have HR4 := hid (HR3.out.far (p := ⟨w.heap.size + 1, 1, none⟩) gn3 (.int .i64 n1))
  have HK4 := hid (HK3.out.far (p := ⟨w.heap.size + 1, 1, none⟩) n23 (.int .i64 n1))
  have HL4 := hid (HL3.out.set_ 1 (.int .i64 n1))
  have HY4 := hid (only_in (b := w.heap.size + 1) (i := 1) HY3.out HLG.out (.int .i64 n1))
  simp only [List.setIfInBounds_toArray, List.set_cons_zero, List.set_cons_succ] at HL4
  go_wp2_with fail
  refine (num_any8 (nmR (nmR r)) g _ HR4.out (by omega)).mono ?_
  rintro e w5 ⟨rfl, h1, h2⟩
  rw [← HN2.out]
  have HR5 := hid h1
  have HK5 := hid (h2.lies HK4.out ng2)
  have HL5 := hid (h2.lies HL4.out ng3)
  have HY5 := hid (HY4.out.then_ h2)
  clear h1 h2
  have l5 := HL5.out.cell 5
  have lf5 := HL5.out.frozen 5
  simp only [List.getElem?_toArray, List.getElem?_cons_zero, List.getElem?_cons_succ] at l5
  have HR6 := hid (HR5.out.far (p := ⟨w.heap.size + 1, 5, none⟩) gn3 (.int .i64 n2))
  have HK6 := hid (HK5.out.far (p := ⟨w.heap.size + 1, 5, none⟩) n23 (.int .i64 n2))
  have HL6 := hid (HL5.out.set_ 5 (.int .i64 n2))
  have HY6 := hid (only_in (b := w.heap.size + 1) (i := 5) HY5.out HLG.out (.int .i64 n2))
  simp only [List.setIfInBounds_toArray, List.set_cons_zero, List.set_cons_succ] at HL6
  have c1 := HL6.out.cell 1
  simp only [List.getElem?_toArray, List.getElem?_cons_zero, List.getElem?_cons_succ] at c1
  by_cases k0 : n1 = 0
  · subst k0
    go_wp2_with fail
    refine (list_any8 (obT r) g _ HR6.out hl3).mono ?_
    rintro e w7 ⟨A, c, rfl, ho, h1, h2⟩
    have HR7 := hid h1
    have HK7 := hid (h2.lies HK6.out ng2)
    have HL7 := hid (h2.lies HL6.out ng3)
    have HY7 := hid (HY6.out.then_ h2)
    have HO7 := hid (own_lower ho HY6.out.size)
    have HOB : Hid (w.heap.size + 1 + 1 ≤ w7.heap.size) := Nat.succ_le_of_lt HL7.out.lt
    have HO8 : Hid (w7.ownsRow (w.heap.size + 1 + 1) 3 1 (.slice A (lsV (obT r)).length c) (lsV (obT r)).length ((lsV (obT r)).map (Value.int .i64))) := own_lower ho (Nat.succ_le_of_lt HL6.out.lt)
    clear h1 h2 ho
    have l2 := HL7.out.cell 2
    have lf2 := HL7.out.frozen 2
    simp only [List.getElem?_toArray, List.getElem?_cons_zero, List.getElem?_cons_succ] at l2
    have HR8 := hid (HR7.out.far (p := ⟨w.heap.size + 1, 2, none⟩) gn3 (.slice A (lsV (obT r)).length c))
    have HK8 := hid (HK7.out.far (p := ⟨w.heap.size + 1, 2, none⟩) n23 (.slice A (lsV (obT r)).length c))
    have HL8 := hid (HL7.out.set_ 2 (.slice A (lsV (obT r)).length c))
    have HY8 := hid (only_in (b := w.heap.size + 1) (i := 2) HY7.out HLG.out (.slice A (lsV (obT r)).length c))
    simp only [List.setIfInBounds_toArray, List.set_cons_zero, List.set_cons_succ] at HL8
    have q0 := HL8.out.cell 0
    have q1 := HL8.out.cell 1
    have q2 := HL8.out.cell 2
    have q3 := HL8.out.cell 3
    have q4 := HL8.out.cell 4
    have q5 := HL8.out.cell 5
    have p0 := HK8.out.cell 0
    have p1 := HK8.out.cell 1
    have p2 := HK8.out.cell 2
    have p3 := HK8.out.cell 3
    have p4 := HK8.out.cell 4
    have p5 := HK8.out.cell 5
    have pf0 := HK8.out.frozen 0
    have pf1 := HK8.out.frozen 1
    have pf2 := HK8.out.frozen 2
    have pf3 := HK8.out.frozen 3
    have pf4 := HK8.out.frozen 4
    have pf5 := HK8.out.frozen 5
    simp only [List.getElem?_toArray, List.getElem?_cons_zero, List.getElem?_cons_succ] at q0 q1 q2 q3 q4 q5 p0 p1 p2 p3 p4 p5
    go_wp2_with fail
    have X1 := (((((HK8.out.set_ 0 (.int .i64 n0)).set_ 1 (.int .i64 0)).set_ 2 (.slice A (lsV (obT r)).length c)).set_ 3 (.string ⟨#[]⟩)).set_ 4 (.int .i64 0)).set_ 5 (.int .i64 n2)
    have r0 := X1.cell 0
    have r1 := X1.cell 1
    have r2 := X1.cell 2
    have r3 := X1.cell 3
    have r4 := X1.cell 4
    have r5 := X1.cell 5
    simp only [List.setIfInBounds_toArray, List.set_cons_zero, List.set_cons_succ, List.getElem?_toArray, List.getElem?_cons_zero, List.getElem?_cons_succ] at r0 r1 r2 r3 r4 r5
    refine bodyPost_ret (v := .agg #[.int .i64 n0, .int .i64 0, .slice A (lsV (obT r)).length c, .string ⟨#[]⟩, .int .i64 0, .int .i64 n2]) (by simp [results, Try.results71, go_sem, r0, r1, r2, r3, r4, r5]) rfl ?_
    have HYF := (((((only_in (b := w.heap.size) (i := 0) HY8.out (Nat.le_refl _) (.int .i64 n0)) |> fun z => only_in (b := w.heap.size) (i := 1) z (Nat.le_refl _) (.int .i64 0)) |> fun z => only_in (b := w.heap.size) (i := 2) z (Nat.le_refl _) (.slice A (lsV (obT r)).length c)) |> fun z => only_in (b := w.heap.size) (i := 3) z (Nat.le_refl _) (.string ⟨#[]⟩)) |> fun z => only_in (b := w.heap.size) (i := 4) z (Nat.le_refl _) (.int .i64 0)) |> fun z => only_in (b := w.heap.size) (i := 5) z (Nat.le_refl _) (.int .i64 n2)
    have HRF := (((((HR8.out.far (p := ⟨w.heap.size, 0, none⟩) ng2.symm (.int .i64 n0)).far (p := ⟨w.heap.size, 1, none⟩) ng2.symm (.int .i64 0)).far (p := ⟨w.heap.size, 2, none⟩) ng2.symm (.slice A (lsV (obT r)).length c)).far (p := ⟨w.heap.size, 3, none⟩) ng2.symm (.string ⟨#[]⟩)).far (p := ⟨w.heap.size, 4, none⟩) ng2.symm (.int .i64 0)).far (p := ⟨w.heap.size, 5, none⟩) ng2.symm (.int .i64 n2)
    have e1 : obV r = ⟨n0, 0, lsV (obT r), ⟨#[]⟩, 0, n2⟩ := by unfold obV; rw [← HN1.out, ← HN0.out, ← HN2.out]; rfl
    have e2 : obR r = lsR (obT r) := by unfold obR; rw [← HN1.out]; rfl
    refine ⟨A, c, ?_, ?_, ?_, HYF⟩
    · (rw [e1]; try rfl)
    · (rw [e1]; try rfl)
      refine own_lower (base := w.heap.size + 1 + 1) ?_ (by omega)
      exact ownsRow_setCell_below (ownsRow_setCell_below (ownsRow_setCell_below (ownsRow_setCell_below (ownsRow_setCell_below (ownsRow_setCell_below (ownsRow_setCell_below HO8.out (by simp) _) (by simp; omega) _) (by simp; omega) _) (by simp; omega) _) (by simp; omega) _) (by simp; omega) _) (by simp; omega) _
    · rw [e2]; exact HRF
  · by_cases k1 : n1 = 1
    · subst k1
      go_wp2_with fail
      refine (num_any8 (obT r) g _ HR6.out (by omega)).mono ?_
      rintro e w7 ⟨rfl, h1, h2⟩
      have HR7 := hid h1
      have HK7 := hid (h2.lies HK6.out ng2)
      have HL7 := hid (h2.lies HL6.out ng3)
      have HY7 := hid (HY6.out.then_ h2)
      clear h1 h2
      have hl4 : (nmR (obT r)).s.length ≤ 100000 := Nat.le_trans (tkR_len (obT r) 4) hl3
      go_wp2_with fail
      refine (take_any (nmR (obT r)) (nmV (obT r)) g _ HR7.out (by omega)).mono ?_
      rintro e w8 ⟨rfl, h1, h2⟩
      have HR8 := hid h1
      have HK8 := hid (h2.lies HK7.out ng2)
      have HL8 := hid (h2.lies HL7.out ng3)
      have HY8 := hid (HY7.out.then_ h2)
      clear h1 h2
      have l3 := HL8.out.cell 3
      have lf3 := HL8.out.frozen 3
      simp only [List.getElem?_toArray, List.getElem?_cons_zero, List.getElem?_cons_succ] at l3
      have HR9 := hid (HR8.out.far (p := ⟨w.heap.size + 1, 3, none⟩) gn3 (.string (str (tkS (nmV (obT r)) (nmR (obT r))))))
      have HK9 := hid (HK8.out.far (p := ⟨w.heap.size + 1, 3, none⟩) n23 (.string (str (tkS (nmV (obT r)) (nmR (obT r))))))
      have HL9 := hid (HL8.out.set_ 3 (.string (str (tkS (nmV (obT r)) (nmR (obT r))))))
      have HY9 := hid (only_in (b := w.heap.size + 1) (i := 3) HY8.out HLG.out (.string (str (tkS (nmV (obT r)) (nmR (obT r))))))
      simp only [List.setIfInBounds_toArray, List.set_cons_zero, List.set_cons_succ] at HL9
      have q0 := HL9.out.cell 0
      have q1 := HL9.out.cell 1
      have q2 := HL9.out.cell 2
      have q3 := HL9.out.cell 3
      have q4 := HL9.out.cell 4
      have q5 := HL9.out.cell 5
      have p0 := HK9.out.cell 0
      have p1 := HK9.out.cell 1
      have p2 := HK9.out.cell 2
      have p3 := HK9.out.cell 3
      have p4 := HK9.out.cell 4
      have p5 := HK9.out.cell 5
      have pf0 := HK9.out.frozen 0
      have pf1 := HK9.out.frozen 1
      have pf2 := HK9.out.frozen 2
      have pf3 := HK9.out.frozen 3
      have pf4 := HK9.out.frozen 4
      have pf5 := HK9.out.frozen 5
      simp only [List.getElem?_toArray, List.getElem?_cons_zero, List.getElem?_cons_succ] at q0 q1 q2 q3 q4 q5 p0 p1 p2 p3 p4 p5
      go_wp2_with fail
      have X1 := (((((HK9.out.set_ 0 (.int .i64 n0)).set_ 1 (.int .i64 1)).set_ 2 (.slice none 0 0)).set_ 3 (.string (str (tkS (nmV (obT r)) (nmR (obT r)))))).set_ 4 (.int .i64 0)).set_ 5 (.int .i64 n2)
      have r0 := X1.cell 0
      have r1 := X1.cell 1
      have r2 := X1.cell 2
      have r3 := X1.cell 3
      have r4 := X1.cell 4
      have r5 := X1.cell 5
      simp only [List.setIfInBounds_toArray, List.set_cons_zero, List.set_cons_succ, List.getElem?_toArray, List.getElem?_cons_zero, List.getElem?_cons_succ] at r0 r1 r2 r3 r4 r5
      refine bodyPost_ret (v := .agg #[.int .i64 n0, .int .i64 1, .slice none 0 0, .string (str (tkS (nmV (obT r)) (nmR (obT r)))), .int .i64 0, .int .i64 n2]) (by simp [results, Try.results71, go_sem, r0, r1, r2, r3, r4, r5]) rfl ?_
      have HYF := (((((only_in (b := w.heap.size) (i := 0) HY9.out (Nat.le_refl _) (.int .i64 n0)) |> fun z => only_in (b := w.heap.size) (i := 1) z (Nat.le_refl _) (.int .i64 1)) |> fun z => only_in (b := w.heap.size) (i := 2) z (Nat.le_refl _) (.slice none 0 0)) |> fun z => only_in (b := w.heap.size) (i := 3) z (Nat.le_refl _) (.string (str (tkS (nmV (obT r)) (nmR (obT r)))))) |> fun z => only_in (b := w.heap.size) (i := 4) z (Nat.le_refl _) (.int .i64 0)) |> fun z => only_in (b := w.heap.size) (i := 5) z (Nat.le_refl _) (.int .i64 n2)
      have HRF := (((((HR9.out.far (p := ⟨w.heap.size, 0, none⟩) ng2.symm (.int .i64 n0)).far (p := ⟨w.heap.size, 1, none⟩) ng2.symm (.int .i64 1)).far (p := ⟨w.heap.size, 2, none⟩) ng2.symm (.slice none 0 0)).far (p := ⟨w.heap.size, 3, none⟩) ng2.symm (.string (str (tkS (nmV (obT r)) (nmR (obT r)))))).far (p := ⟨w.heap.size, 4, none⟩) ng2.symm (.int .i64 0)).far (p := ⟨w.heap.size, 5, none⟩) ng2.symm (.int .i64 n2)
      have e1 : obV r = ⟨n0, 1, [], str (tkS (nmV (obT r)) (nmR (obT r))), 0, n2⟩ := by unfold obV; rw [← HN1.out, ← HN0.out, ← HN2.out]; rfl
      have e2 : obR r = tkR (nmV (obT r)) (nmR (obT r)) := by unfold obR; rw [← HN1.out]; rfl
      refine ⟨none, 0, ?_, ?_, ?_, HYF⟩
      · (rw [e1]; try rfl)
      · rw [e1]; exact World.ownsRow_nil _ _ _ _
      · rw [e2]; exact HRF
    · by_cases k2 : n1 = 2
      · subst k2
        go_wp2_with fail
        refine (take_any (obT r) 8 g _ HR6.out (by omega)).mono ?_
        rintro e w7 ⟨rfl, h1, h2⟩
        have HR7 := hid h1
        have HK7 := hid (h2.lies HK6.out ng2)
        have HL7 := hid (h2.lies HL6.out ng3)
        have HY7 := hid (HY6.out.then_ h2)
        clear h1 h2
        have hl4 : (tkS 8 (obT r)).length ≤ 8 := tk_len (obT r) 8
        go_wp2_with fail
        refine (plain_any (tkS 8 (obT r)) hl4 _).mono ?_
        rintro e w8 ⟨rfl, rfl⟩
        have l4 := HL7.out.cell 4
        have lf4 := HL7.out.frozen 4
        simp only [List.getElem?_toArray, List.getElem?_cons_zero, List.getElem?_cons_succ] at l4
        have HR8 := hid (HR7.out.far (p := ⟨w.heap.size + 1, 4, none⟩) gn3 (.int .i64 (plN8 (tkS 8 (obT r)))))
        have HK8 := hid (HK7.out.far (p := ⟨w.heap.size + 1, 4, none⟩) n23 (.int .i64 (plN8 (tkS 8 (obT r)))))
        have HL8 := hid (HL7.out.set_ 4 (.int .i64 (plN8 (tkS 8 (obT r)))))
        have HY8 := hid (only_in (b := w.heap.size + 1) (i := 4) HY7.out HLG.out (.int .i64 (plN8 (tkS 8 (obT r)))))
        simp only [List.setIfInBounds_toArray, List.set_cons_zero, List.set_cons_succ] at HL8
        have q0 := HL8.out.cell 0
        have q1 := HL8.out.cell 1
        have q2 := HL8.out.cell 2
        have q3 := HL8.out.cell 3
        have q4 := HL8.out.cell 4
        have q5 := HL8.out.cell 5
        have p0 := HK8.out.cell 0
        have p1 := HK8.out.cell 1
        have p2 := HK8.out.cell 2
        have p3 := HK8.out.cell 3
        have p4 := HK8.out.cell 4
        have p5 := HK8.out.cell 5
        have pf0 := HK8.out.frozen 0
        have pf1 := HK8.out.frozen 1
        have pf2 := HK8.out.frozen 2
        have pf3 := HK8.out.frozen 3
        have pf4 := HK8.out.frozen 4
        have pf5 := HK8.out.frozen 5
        simp only [List.getElem?_toArray, List.getElem?_cons_zero, List.getElem?_cons_succ] at q0 q1 q2 q3 q4 q5 p0 p1 p2 p3 p4 p5
        go_wp2_with fail
        have X1 := (((((HK8.out.set_ 0 (.int .i64 n0)).set_ 1 (.int .i64 2)).set_ 2 (.slice none 0 0)).set_ 3 (.string ⟨#[]⟩)).set_ 4 (.int .i64 (plN8 (tkS 8 (obT r))))).set_ 5 (.int .i64 n2)
        have r0 := X1.cell 0
        have r1 := X1.cell 1
        have r2 := X1.cell 2
        have r3 := X1.cell 3
        have r4 := X1.cell 4
        have r5 := X1.cell 5
        simp only [List.setIfInBounds_toArray, List.set_cons_zero, List.set_cons_succ, List.getElem?_toArray, List.getElem?_cons_zero, List.getElem?_cons_succ] at r0 r1 r2 r3 r4 r5
        refine bodyPost_ret (v := .agg #[.int .i64 n0, .int .i64 2, .slice none 0 0, .string ⟨#[]⟩, .int .i64 (plN8 (tkS 8 (obT r))), .int .i64 n2]) (by simp [results, Try.results71, go_sem, r0, r1, r2, r3, r4, r5]) rfl ?_
        have HYF := (((((only_in (b := w.heap.size) (i := 0) HY8.out (Nat.le_refl _) (.int .i64 n0)) |> fun z => only_in (b := w.heap.size) (i := 1) z (Nat.le_refl _) (.int .i64 2)) |> fun z => only_in (b := w.heap.size) (i := 2) z (Nat.le_refl _) (.slice none 0 0)) |> fun z => only_in (b := w.heap.size) (i := 3) z (Nat.le_refl _) (.string ⟨#[]⟩)) |> fun z => only_in (b := w.heap.size) (i := 4) z (Nat.le_refl _) (.int .i64 (plN8 (tkS 8 (obT r))))) |> fun z => only_in (b := w.heap.size) (i := 5) z (Nat.le_refl _) (.int .i64 n2)
        have HRF := (((((HR8.out.far (p := ⟨w.heap.size, 0, none⟩) ng2.symm (.int .i64 n0)).far (p := ⟨w.heap.size, 1, none⟩) ng2.symm (.int .i64 2)).far (p := ⟨w.heap.size, 2, none⟩) ng2.symm (.slice none 0 0)).far (p := ⟨w.heap.size, 3, none⟩) ng2.symm (.string ⟨#[]⟩)).far (p := ⟨w.heap.size, 4, none⟩) ng2.symm (.int .i64 (plN8 (tkS 8 (obT r))))).far (p := ⟨w.heap.size, 5, none⟩) ng2.symm (.int .i64 n2)
        have e1 : obV r = ⟨n0, 2, [], ⟨#[]⟩, plN8 (tkS 8 (obT r)), n2⟩ := by unfold obV; rw [← HN1.out, ← HN0.out, ← HN2.out]; rfl
        have e2 : obR r = tkR 8 (obT r) := by unfold obR; rw [← HN1.out]; rfl
        refine ⟨none, 0, ?_, ?_, ?_, HYF⟩
        · (rw [e1]; try rfl)
        · rw [e1]; exact World.ownsRow_nil _ _ _ _
        · rw [e2]; exact HRF
      · have q0 := HL6.out.cell 0
        have q1 := HL6.out.cell 1
        have q2 := HL6.out.cell 2
        have q3 := HL6.out.cell 3
        have q4 := HL6.out.cell 4
        have q5 := HL6.out.cell 5
        have p0 := HK6.out.cell 0
        have p1 := HK6.out.cell 1
        have p2 := HK6.out.cell 2
        have p3 := HK6.out.cell 3
        have p4 := HK6.out.cell 4
        have p5 := HK6.out.cell 5
        have pf0 := HK6.out.frozen 0
        have pf1 := HK6.out.frozen 1
        have pf2 := HK6.out.frozen 2
        have pf3 := HK6.out.frozen 3
        have pf4 := HK6.out.frozen 4
        have pf5 := HK6.out.frozen 5
        simp only [List.getElem?_toArray, List.getElem?_cons_zero, List.getElem?_cons_succ] at q0 q1 q2 q3 q4 q5 p0 p1 p2 p3 p4 p5
        go_wp2_with fail
        have X1 := (((((HK6.out.set_ 0 (.int .i64 n0)).set_ 1 (.int .i64 n1)).set_ 2 (.slice none 0 0)).set_ 3 (.string ⟨#[]⟩)).set_ 4 (.int .i64 0)).set_ 5 (.int .i64 n2)
        have r0 := X1.cell 0
        have r1 := X1.cell 1
        have r2 := X1.cell 2
        have r3 := X1.cell 3
        have r4 := X1.cell 4
        have r5 := X1.cell 5
        simp only [List.setIfInBounds_toArray, List.set_cons_zero, List.set_cons_succ, List.getElem?_toArray, List.getElem?_cons_zero, List.getElem?_cons_succ] at r0 r1 r2 r3 r4 r5
        refine bodyPost_ret (v := .agg #[.int .i64 n0, .int .i64 n1, .slice none 0 0, .string ⟨#[]⟩, .int .i64 0, .int .i64 n2]) (by simp [results, Try.results71, go_sem, r0, r1, r2, r3, r4, r5]) rfl ?_
        have HYF := (((((only_in (b := w.heap.size) (i := 0) HY6.out (Nat.le_refl _) (.int .i64 n0)) |> fun z => only_in (b := w.heap.size) (i := 1) z (Nat.le_refl _) (.int .i64 n1)) |> fun z => only_in (b := w.heap.size) (i := 2) z (Nat.le_refl _) (.slice none 0 0)) |> fun z => only_in (b := w.heap.size) (i := 3) z (Nat.le_refl _) (.string ⟨#[]⟩)) |> fun z => only_in (b := w.heap.size) (i := 4) z (Nat.le_refl _) (.int .i64 0)) |> fun z => only_in (b := w.heap.size) (i := 5) z (Nat.le_refl _) (.int .i64 n2)
        have HRF := (((((HR6.out.far (p := ⟨w.heap.size, 0, none⟩) ng2.symm (.int .i64 n0)).far (p := ⟨w.heap.size, 1, none⟩) ng2.symm (.int .i64 n1)).far (p := ⟨w.heap.size, 2, none⟩) ng2.symm (.slice none 0 0)).far (p := ⟨w.heap.size, 3, none⟩) ng2.symm (.string ⟨#[]⟩)).far (p := ⟨w.heap.size, 4, none⟩) ng2.symm (.int .i64 0)).far (p := ⟨w.heap.size, 5, none⟩) ng2.symm (.int .i64 n2)
        have e1 : obV r = ⟨n0, n1, [], ⟨#[]⟩, 0, n2⟩ := by unfold obV; rw [← HN1.out, ← HN0.out, ← HN2.out, if_neg k0, if_neg k1, if_neg k2]
        have e2 : obR r = obT r := by unfold obR; rw [← HN1.out, if_neg k0, if_neg k1, if_neg k2]
        refine ⟨none, 0, ?_, ?_, ?_, HYF⟩
        · (rw [e1]; try rfl)
        · rw [e1]; exact World.ownsRow_nil _ _ _ _
        · rw [e2]; exact HRF
end Go.Proofs.Ythggafdfglojaaa
namespace Go.Proofs.Ythggafdfglojaaa
open Go.RowKit
theorem obs_step (k : Nat) (r : Rd) : obsV (k + 1) r = obsV k r ++ (if (obsR k r).bad then [] else [obV (obsR k r)]) ∧ obsR (k + 1) r = (if (obsR k r).bad then obsR k r else obR (obsR k r)) := by
  induction k generalizing r with
  | zero =>
    show (if r.bad then [] else obV r :: obsV 0 (obR r)) = [] ++ _ ∧ (if r.bad then r else obsR 0 (obR r)) = _
    cases hb : r.bad <;> simp [obsV, obsR, hb]
  | succ k ih =>
    obtain ⟨i1, i2⟩ := ih (obR r)
    cases hb : r.bad
    · have e1 : ∀ j, obsV (j + 1) r = obV r :: obsV j (obR r) := fun j => by
        show (if r.bad then [] else _) = _
        rw [hb]; rfl
      have e2 : ∀ j, obsR (j + 1) r = obsR j (obR r) := fun j => by
        show (if r.bad then r else _) = _
        rw [hb]; rfl
      rw [e1 (k + 1), e2 (k + 1), e1 k, e2 k, i1, i2]
      exact ⟨rfl, rfl⟩
    · have e1 : ∀ j, obsV (j + 1) r = [] := fun j => by
        show (if r.bad then [] else _) = _
        rw [hb]; rfl
      have e2 : ∀ j, obsR (j + 1) r = r := fun j => by
        show (if r.bad then r else _) = _
        rw [hb]; rfl
      rw [e1 (k + 1), e2 (k + 1), e1 k, e2 k, hb]
      exact ⟨rfl, rfl⟩
theorem obs_stop (k n : Nat) (r : Rd) (h : (obsR k r).bad = true) (hn : k ≤ n) : obsV n r = obsV k r ∧ obsR n r = obsR k r := by
  induction n with
  | zero => obtain rfl : k = 0 := by omega
            exact ⟨rfl, rfl⟩
  | succ n ih =>
    by_cases e : k = n + 1
    · subst e; exact ⟨rfl, rfl⟩
    · obtain ⟨i1, i2⟩ := ih (by omega)
      obtain ⟨s1, s2⟩ := obs_step n r
      rw [i2, h] at s1 s2
      simp only [if_true, List.append_nil] at s1 s2
      exact ⟨s1.trans i1, s2⟩
theorem tk_bad {r : Rd} {n : Int} (h : (tkR n r).bad = false) : r.bad = false ∧ (tkR n r).s.length + n.toNat = r.s.length := by
  unfold tkR at h ⊢
  split at h
  · cases h
  · rename_i hn
    rw [if_neg hn]
    simp only [not_or, Int.not_lt, Bool.not_eq_true] at hn
    refine ⟨hn.1, ?_⟩
    rw [List.length_drop]
    have := hn.2.2
    omega
theorem nms_bad {k : Nat} {r : Rd} (h : (nmsR k r).bad = false) : r.bad = false ∧ (nmsR k r).s.length ≤ r.s.length := by
  refine ⟨?_, nms_len k r⟩
  cases hb : r.bad
  · rfl
  · have := (nms_stop 0 k r hb (Nat.zero_le _)).2
    rw [this] at h
    exact (hb.symm.trans h).symm ▸ rfl
theorem ls_len (r : Rd) : (lsR r).s.length ≤ r.s.length := by
  unfold lsR
  refine Nat.le_trans (nms_len _ _) ?_
  unfold lsI
  split <;> exact tkR_len r 4
theorem ls_bad {r : Rd} (h : (lsR r).bad = false) : r.bad = false := by
  have h1 := (nms_bad h).1
  unfold lsI at h1
  split at h1
  · cases h1
  · exact (tk_bad h1).1
theorem obT_len (r : Rd) : (obT r).s.length ≤ r.s.length := Nat.le_trans (tkR_len _ 4) (Nat.le_trans (tkR_len _ 4) (tkR_len r 4))
theorem ob_len (r : Rd) : (obR r).s.length ≤ r.s.length := by
  refine Nat.le_trans ?_ (obT_len r)
  unfold obR
  split
  · exact ls_len _
  · split
    · exact Nat.le_trans (tkR_len _ _) (tkR_len _ 4)
    · split
      · exact tkR_len _ 8
      · exact Nat.le_refl _
/-- each object read takes twelve bytes at least -/
theorem ob_less {r : Rd} (h : (obR r).bad = false) : (obR r).s.length + 12 ≤ r.s.length := by
  have h1 : (obT r).bad = false ∧ (obR r).s.length ≤ (obT r).s.length := by
    unfold obR at h ⊢
    split at h
    · rename_i e; rw [if_pos e]; exact ⟨ls_bad h, ls_len _⟩
    · rename_i e
      rw [if_neg e]
      split at h
      · rename_i e2; rw [if_pos e2]; exact ⟨(tk_bad (tk_bad h).1).1, Nat.le_trans (tkR_len _ _) (tkR_len _ 4)⟩
      · rename_i e2
        rw [if_neg e2]
        split at h
        · rename_i e3; rw [if_pos e3]; exact ⟨(tk_bad h).1, tkR_len _ 8⟩
        · rename_i e3; rw [if_neg e3]; exact ⟨h, Nat.le_refl _⟩
  obtain ⟨h2, h3⟩ := h1
  obtain ⟨b1, l1⟩ := tk_bad (r := nmR (nmR r)) (n := 4) h2
  obtain ⟨b2, l2⟩ := tk_bad (r := nmR r) (n := 4) b1
  obtain ⟨b3, l3⟩ := tk_bad (r := r) (n := 4) b2
  have e : (4 : Int).toNat = 4 := rfl
  rw [e] at l1 l2 l3
  have l1' : (obT r).s.length + 4 = (nmR (nmR r)).s.length := l1
  have l2' : (nmR (nmR r)).s.length + 4 = (nmR r).s.length := l2
  have l3' : (nmR r).s.length + 4 = r.s.length := l3
  omega
theorem obs_len (k : Nat) (r : Rd) : (obsR k r).s.length ≤ r.s.length := by
  induction k generalizing r with
  | zero => exact Nat.le_refl _
  | succ k ih =>
    show (if r.bad then r else obsR k (obR r)).s.length ≤ _
    split
    · exact Nat.le_refl _
    · exact Nat.le_trans (ih (obR r)) (ob_len r)
theorem obs_short (k : Nat) (r : Rd) : (obsV k r).length * 12 + (obsR k r).s.length ≤ r.s.length + 12 := by
  induction k generalizing r with
  | zero => simp [obsV, obsR]
  | succ k ih =>
    cases hb : r.bad
    · have e1 : obsV (k + 1) r = obV r :: obsV k (obR r) := by
        show (if r.bad then [] else _) = _
        rw [hb]; rfl
      have e2 : obsR (k + 1) r = obsR k (obR r) := by
        show (if r.bad then r else _) = _
        rw [hb]; rfl
      rw [e1, e2, List.length_cons]
      cases hq : (obR r).bad
      · have := ih (obR r)
        have := ob_less hq
        omega
      · obtain ⟨h1, h2⟩ := obs_stop 0 k (obR r) hq (Nat.zero_le _)
        rw [h1, h2]
        have := ob_len r
        show (0 + 1) * 12 + (obR r).s.length ≤ _
        omega
    · have e1 : obsV (k + 1) r = [] := by
        show (if r.bad then [] else _) = _
        rw [hb]; rfl
      have e2 : obsR (k + 1) r = r := by
        show (if r.bad then r else _) = _
        rw [hb]; rfl
      rw [e1, e2]; simp
end Go.Proofs.Ythggafdfglojaaa
