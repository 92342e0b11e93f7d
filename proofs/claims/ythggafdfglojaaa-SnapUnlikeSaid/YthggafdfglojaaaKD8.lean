/- The program's reader of bytes, in plain mathematics: what it reads, or that it stops; what is written is read; so what it tells is as the document says. The program's reader of bytes: so many bytes, the number that they are, a number of four bytes, how many there are: each, or a stop. The program's reader of bytes: a list of numbers. -/
import Derived.Test.YthggafdfglojaaaKA8
import Derived.Test.YthggafdfglojaaaKB8
namespace Go.Proofs.Ythggafdfglojaaa
open Go.RowKit
/-- so many bytes, or a stop -/
def pk8 (n : Nat) (s : List UInt8) : Option (List UInt8 × List UInt8) := if s.length < n then none else some (s.take n, s.drop n)
def wd8 (s : List UInt8) : Option (Int × List UInt8) := (pk8 4 s).bind fun p => some (sgn (plN8 p.1), p.2)
def ct8 (most : Int) (s : List UInt8) : Option (Int × List UInt8) := (wd8 s).bind fun p => if p.1 < 0 ∨ most < p.1 then none else some p
/-- so many of them -/
def many8 {α : Type} (f : List UInt8 → Option (α × List UInt8)) : Nat → List UInt8 → Option (List α × List UInt8)
  | 0, s => some ([], s)
  | k + 1, s => (f s).bind fun p => (many8 f k p.2).bind fun q => some (p.1 :: q.1, q.2)
abbrev nms8 : Nat → List UInt8 → Option (List Int × List UInt8) := many8 wd8
def ls8 (most : Int) (s : List UInt8) : Option (List Int × List UInt8) := (ct8 most s).bind fun p => nms8 p.1.toNat p.2
def tx8 (s : List UInt8) : Option (List UInt8 × List UInt8) := (ct8 64 s).bind fun p => pk8 p.1.toNat p.2
/-- an object's rest, behind its class, kind and hash -/
def ot8 (c k h : Int) (s : List UInt8) : Option (Ob × List UInt8) :=
  if k = 0 then (ls8 64 s).bind fun q => some (⟨c, k, q.1, ⟨#[]⟩, 0, h⟩, q.2)
  else if k = 1 then (tx8 s).bind fun q => some (⟨c, k, [], ⟨q.1.toArray⟩, 0, h⟩, q.2)
  else if k = 2 then (pk8 8 s).bind fun q => some (⟨c, k, [], ⟨#[]⟩, plN8 q.1, h⟩, q.2)
  else some (⟨c, k, [], ⟨#[]⟩, 0, h⟩, s)
def ob8 (s : List UInt8) : Option (Ob × List UInt8) := (wd8 s).bind fun c => (wd8 c.2).bind fun k => (wd8 k.2).bind fun h => ot8 c.1 k.1 h.1 h.2
abbrev obs8 : Nat → List UInt8 → Option (List Ob × List UInt8) := many8 ob8
def rd8 (t : List UInt8) : Option (Hp × List Int) :=
  (pk8 3 t).bind fun m => (wd8 m.2).bind fun c => (wd8 c.2).bind fun l => (ct8 256 l.2).bind fun n => (obs8 n.1.toNat n.2).bind fun os => (ls8 64 os.2).bind fun r => some (⟨os.1, c.1, l.1⟩, r.1)
theorem pk8_app (a b : List UInt8) : pk8 a.length (a ++ b) = some (a, b) := by
  unfold pk8
  rw [if_neg (by rw [List.length_append]; omega), List.take_left, List.drop_left]
theorem wd8_app {n : Int} (h : Sm n) (b : List UInt8) : wd8 (n4 n ++ b) = some (n, b) := by
  have h4 := pk8_app (n4 n) b
  rw [n4_len] at h4
  unfold wd8
  rw [h4, Option.bind_some]
  simp only [pl_n4, sgn_mod h.1 h.2]
theorem ct8_app {n most : Int} (h0 : 0 ≤ n) (h1 : n ≤ most) (h2 : most < 1000) (b : List UInt8) : ct8 most (n4 n ++ b) = some (n, b) := by
  unfold ct8
  rw [wd8_app (by unfold Sm; omega) b, Option.bind_some]
  exact if_neg (by simp only; omega)
theorem nms8_app (l : List Int) (b : List UInt8) (hl : ∀ n ∈ l, Sm n) : nms8 l.length (l.flatMap n4 ++ b) = some (l, b) := by
  induction l with
  | nil => rfl
  | cons n l ih =>
    have h := wd8_app (hl n (by simp)) (l.flatMap n4 ++ b)
    have i1 : many8 wd8 l.length _ = _ := ih fun m hm => hl m (by simp [hm])
    rw [List.flatMap_cons, List.append_assoc]
    show (wd8 (n4 n ++ (l.flatMap n4 ++ b))).bind _ = _
    rw [h, Option.bind_some, i1, Option.bind_some]
theorem ls8_app (l : List Int) (most : Int) (b : List UInt8) (hl : ∀ n ∈ l, Sm n) (hn : (l.length : Int) ≤ most) (hm : most < 1000) : ls8 most (l4 l ++ b) = some (l, b) := by
  unfold ls8 l4
  rw [List.append_assoc, ct8_app (by omega) hn hm, Option.bind_some]
  simp only [Int.toNat_natCast]
  exact nms8_app l b hl
theorem ob8_app {n : Nat} {o : Ob} (h : obB n o = true) (hw : Wd o.bits) (b : List UInt8) : ob8 (oE o ++ b) = some (o, b) := by
  obtain ⟨h1, h2, h3, h4⟩ := ob_parts h
  have hk : Sm o.kind := by
    rcases kind_parts h3 with h | h | h <;> (unfold Sm; omega)
  unfold oE ob8
  simp only [List.append_assoc]
  rw [wd8_app h1, Option.bind_some]
  simp only
  rw [wd8_app hk, Option.bind_some]
  simp only
  rw [wd8_app h2, Option.bind_some]
  simp only
  unfold ot8
  rcases kind_parts h3 with ⟨e, p1, p2, p3⟩ | ⟨e, p1, p2, p3⟩ | ⟨e, p1, p2⟩
  · rw [if_pos e, if_pos e, ls8_app _ _ _ h4 (by omega) (by omega), Option.bind_some]
    cases o; simp_all
  · have n0 : ¬ o.kind = 0 := by omega
    rw [if_neg n0, if_neg n0, if_pos e, if_pos e]
    unfold tx8
    rw [List.append_assoc, ct8_app (n := (o.text.size : Int)) (by omega) (by omega) (by omega), Option.bind_some]
    have hs : o.text.size = o.text.data.toList.length := by rw [Array.length_toList]; rfl
    simp only [Int.toNat_natCast]
    rw [hs, pk8_app, Option.bind_some]
    cases o with
    | mk c k sl t bi ha => cases t; simp_all
  · have n0 : ¬ o.kind = 0 := by omega
    have n1 : ¬ o.kind = 1 := by omega
    rw [if_neg n0, if_neg n0, if_neg n1, if_neg n1, if_pos e]
    have hs : (n4 o.bits ++ n4 (o.bits / 4294967296)).length = 8 := by rw [List.length_append, n4_len, n4_len]
    have hq := pk8_app (n4 o.bits ++ n4 (o.bits / 4294967296)) b
    rw [hs] at hq
    rw [hq, Option.bind_some]
    simp only [pl_bits hw]
    cases o; simp_all
theorem obs8_app (n : Nat) (os : List Ob) (b : List UInt8) (ho : ∀ o ∈ os, obB n o = true ∧ Wd o.bits) : obs8 os.length (os.flatMap oE ++ b) = some (os, b) := by
  induction os with
  | nil => rfl
  | cons o os ih =>
    have h := ob8_app (ho o (by simp)).1 (ho o (by simp)).2 (os.flatMap oE ++ b)
    have i1 : many8 ob8 os.length _ = _ := ih fun m hm => ho m (by simp [hm])
    rw [List.flatMap_cons, List.append_assoc]
    show (ob8 (oE o ++ (os.flatMap oE ++ b))).bind _ = _
    rw [h, Option.bind_some, i1, Option.bind_some]
theorem rd8_body {h : Hp} {rs : List Int} (hm : mayR h rs = true) (hw : h.Wd) : rd8 (bodyE h rs) = some (h, rs) := by
  obtain ⟨⟨c0, c1⟩, hl, hn, ho, hr, hrn⟩ := may_parts hm
  have a0 := pk8_app [65, 78, 49] (n4 h.cap ++ (n4 h.last ++ (n4 h.objs.length ++ (h.objs.flatMap oE ++ l4 rs))))
  have e3 : ([65, 78, 49] : List UInt8).length = 3 := rfl
  rw [e3] at a0
  unfold rd8 bodyE
  rw [a0, Option.bind_some]
  simp only
  rw [wd8_app (by unfold Sm; omega), Option.bind_some]
  simp only
  rw [wd8_app hl, Option.bind_some]
  simp only
  rw [ct8_app (n := (h.objs.length : Int)) (by omega) (by omega) (by omega), Option.bind_some]
  simp only [Int.toNat_natCast]
  rw [obs8_app h.objs.length h.objs (l4 rs) fun o hoo => ⟨ho o hoo, hw o hoo⟩, Option.bind_some]
  have a5 := ls8_app rs 64 [] hr (by omega) (by omega)
  rw [List.append_nil] at a5
  simp only
  rw [a5, Option.bind_some]
theorem wd_pl (l : List UInt8) : Wd (plN8 l) := by
  cases l with
  | nil => exact ⟨by decide, by decide⟩
  | cons b l => show Wd (wrap64 _); unfold wrap64 Wd; omega
theorem wd_zero : Wd 0 := ⟨by decide, by decide⟩
theorem ot8_wd {c k h : Int} {s : List UInt8} {p : Ob × List UInt8} (e : ot8 c k h s = some p) : Wd p.1.bits := by
  unfold ot8 at e
  split at e
  · obtain ⟨q, -, e⟩ := Option.bind_eq_some_iff.1 e
    cases e; exact wd_zero
  · split at e
    · obtain ⟨q, -, e⟩ := Option.bind_eq_some_iff.1 e
      cases e; exact wd_zero
    · split at e
      · obtain ⟨q, -, e⟩ := Option.bind_eq_some_iff.1 e
        cases e; exact wd_pl _
      · cases e; exact wd_zero
theorem ob8_wd {s : List UInt8} {p : Ob × List UInt8} (e : ob8 s = some p) : Wd p.1.bits := by
  unfold ob8 at e
  obtain ⟨c, -, e⟩ := Option.bind_eq_some_iff.1 e
  obtain ⟨k, -, e⟩ := Option.bind_eq_some_iff.1 e
  obtain ⟨h, -, e⟩ := Option.bind_eq_some_iff.1 e
  exact ot8_wd e
theorem obs8_wd {k : Nat} {s : List UInt8} {p : List Ob × List UInt8} (e : obs8 k s = some p) : p.1.length = k ∧ ∀ o ∈ p.1, Wd o.bits := by
  induction k generalizing s p with
  | zero => cases e; exact ⟨rfl, fun o ho => by cases ho⟩
  | succ k ih =>
    obtain ⟨a, ha, e⟩ := Option.bind_eq_some_iff.1 (show (ob8 s).bind _ = _ from e)
    obtain ⟨b, hb, e⟩ := Option.bind_eq_some_iff.1 e
    cases e
    obtain ⟨i1, i2⟩ := ih hb
    refine ⟨by simp [i1], fun o ho => ?_⟩
    rcases List.mem_cons.1 ho with rfl | ho
    · exact ob8_wd ha
    · exact i2 o ho
theorem rd8_wd {t : List UInt8} {h : Hp} {rs : List Int} (e : rd8 t = some (h, rs)) : h.Wd := by
  unfold rd8 at e
  obtain ⟨m, -, e⟩ := Option.bind_eq_some_iff.1 e
  obtain ⟨c, -, e⟩ := Option.bind_eq_some_iff.1 e
  obtain ⟨l, -, e⟩ := Option.bind_eq_some_iff.1 e
  obtain ⟨n, -, e⟩ := Option.bind_eq_some_iff.1 e
  obtain ⟨os, ho, e⟩ := Option.bind_eq_some_iff.1 e
  obtain ⟨r, -, e⟩ := Option.bind_eq_some_iff.1 e
  cases e
  exact (obs8_wd ho).2
theorem obV_wd (r : Rd) : Wd (obV r).bits := by
  unfold obV
  show Wd (if obK r = 2 then plN8 (tkS 8 (obT r)) else 0)
  split
  · exact wd_pl _
  · exact wd_zero
theorem obsV_wd (k : Nat) (r : Rd) : ∀ o ∈ obsV k r, Wd o.bits := by
  induction k generalizing r with
  | zero => intro o ho; cases ho
  | succ k ih =>
    intro o ho
    have e : obsV (k + 1) r = if r.bad then [] else obV r :: obsV k (obR r) := rfl
    rw [e] at ho
    split at ho
    · cases ho
    · rcases List.mem_cons.1 ho with rfl | ho
      · exact obV_wd r
      · exact ih _ o ho
theorem deH_wd (l : List UInt8) : (deH l).Wd := by
  unfold deH
  split
  · exact obsV_wd _ _
  · intro o ho; cases ho
/-- what the program tells of bytes whose sum is right -/
theorem rd8_yes {l : List UInt8} {h : Hp} {rs : List Int} (hl : 23 ≤ l.length) (e : rd8 (l.take (l.length - 4)) = some (h, rs)) (he : encE h rs = l) : deE l = 0 ∧ deH l = h ∧ deL l = rs := by
  have hm : mayR h rs = true := by
    by_cases hm : mayR h rs = true
    · exact hm
    · rw [enc_no hm] at he
      rw [← he] at hl
      simp at hl
  have := enc_dec hm (rd8_wd e)
  rw [he] at this
  exact this
theorem rd8_back {l : List UInt8} (h0 : deE l = 0) : rd8 (l.take (l.length - 4)) = some (deH l, deL l) ∧ encE (deH l) (deL l) = l := by
  obtain ⟨h1, h2⟩ := dec_enc h0
  refine ⟨?_, h1⟩
  have ht := (enc_take h2).1
  rw [h1] at ht
  rw [ht]
  exact rd8_body h2 (deH_wd l)
theorem dec_form {l : List UInt8} (h0 : 23 ≤ l.length) (h1 : n4 (su8 (l.take (l.length - 4))) = l.drop (l.length - 4)) : deE l = 0 ∨ deE l = 82 := by
  unfold deE
  rw [if_neg (by omega), if_neg (by rw [h1]; simp)]
  split
  · exact .inr rfl
  · exact .inl rfl
theorem rd8_none {l : List UInt8} (h0 : 23 ≤ l.length) (h1 : n4 (su8 (l.take (l.length - 4))) = l.drop (l.length - 4)) (e : rd8 (l.take (l.length - 4)) = none) : deE l = 82 := by
  rcases dec_form h0 h1 with h | h
  · rw [(rd8_back h).1] at e; cases e
  · exact h
theorem rd8_other {l : List UInt8} {h : Hp} {rs : List Int} (h0 : 23 ≤ l.length) (h1 : n4 (su8 (l.take (l.length - 4))) = l.drop (l.length - 4)) (e : rd8 (l.take (l.length - 4)) = some (h, rs)) (he : encE h rs ≠ l) : deE l = 82 := by
  rcases dec_form h0 h1 with h2 | h2
  · obtain ⟨b1, b2⟩ := rd8_back h2
    rw [b1] at e
    cases e
    exact absurd b2 he
  · exact h2
/-- how much can be read -/
theorem pk8_len {n : Nat} {s : List UInt8} {p : List UInt8 × List UInt8} (e : pk8 n s = some p) : p.1.length = n ∧ p.2.length ≤ s.length := by
  unfold pk8 at e
  split at e
  · cases e
  · cases e
    simp only [List.length_take, List.length_drop]
    omega
theorem wd8_len {s : List UInt8} {p : Int × List UInt8} (e : wd8 s = some p) : p.2.length ≤ s.length := by
  unfold wd8 at e
  obtain ⟨q, hq, e⟩ := Option.bind_eq_some_iff.1 e
  cases e
  exact (pk8_len hq).2
theorem ct8_len {most : Int} {s : List UInt8} {p : Int × List UInt8} (e : ct8 most s = some p) : p.2.length ≤ s.length ∧ 0 ≤ p.1 ∧ p.1 ≤ most := by
  unfold ct8 at e
  obtain ⟨q, hq, e⟩ := Option.bind_eq_some_iff.1 e
  split at e
  · cases e
  · cases e
    exact ⟨wd8_len hq, by omega, by omega⟩
theorem nms8_len {k : Nat} {s : List UInt8} {p : List Int × List UInt8} (e : nms8 k s = some p) : p.1.length = k ∧ p.2.length ≤ s.length := by
  induction k generalizing s p with
  | zero => cases e; exact ⟨rfl, Nat.le_refl _⟩
  | succ k ih =>
    obtain ⟨a, ha, e⟩ := Option.bind_eq_some_iff.1 (show (wd8 s).bind _ = _ from e)
    obtain ⟨b, hb, e⟩ := Option.bind_eq_some_iff.1 e
    cases e
    obtain ⟨i1, i2⟩ := ih hb
    have := wd8_len ha
    exact ⟨by simp [i1], by simp only; omega⟩
theorem ls8_len {most : Int} {s : List UInt8} {p : List Int × List UInt8} (e : ls8 most s = some p) : (p.1.length : Int) ≤ most ∧ p.2.length ≤ s.length := by
  unfold ls8 at e
  obtain ⟨a, ha, e⟩ := Option.bind_eq_some_iff.1 e
  obtain ⟨h1, h2⟩ := nms8_len e
  obtain ⟨h3, h4, h5⟩ := ct8_len ha
  exact ⟨by omega, by omega⟩
theorem tx8_len {s : List UInt8} {p : List UInt8 × List UInt8} (e : tx8 s = some p) : p.2.length ≤ s.length := by
  unfold tx8 at e
  obtain ⟨a, ha, e⟩ := Option.bind_eq_some_iff.1 e
  have h1 := (ct8_len ha).1
  have h2 := (pk8_len e).2
  omega
theorem ot8_len {c k h : Int} {s : List UInt8} {p : Ob × List UInt8} (e : ot8 c k h s = some p) : p.2.length ≤ s.length := by
  unfold ot8 at e
  split at e
  · obtain ⟨q, hq, e⟩ := Option.bind_eq_some_iff.1 e
    cases e; exact (ls8_len hq).2
  · split at e
    · obtain ⟨q, hq, e⟩ := Option.bind_eq_some_iff.1 e
      cases e; exact tx8_len hq
    · split at e
      · obtain ⟨q, hq, e⟩ := Option.bind_eq_some_iff.1 e
        cases e; exact (pk8_len hq).2
      · cases e; exact Nat.le_refl _
theorem ob8_len {s : List UInt8} {p : Ob × List UInt8} (e : ob8 s = some p) : p.2.length ≤ s.length := by
  unfold ob8 at e
  obtain ⟨c, hc, e⟩ := Option.bind_eq_some_iff.1 e
  obtain ⟨k, hk, e⟩ := Option.bind_eq_some_iff.1 e
  obtain ⟨h, hh, e⟩ := Option.bind_eq_some_iff.1 e
  have h1 := wd8_len hc
  have h2 := wd8_len hk
  have h3 := wd8_len hh
  have h4 := ot8_len e
  omega
section
variable {α : Type} {f : List UInt8 → Option (α × List UInt8)}
theorem many8_add (k j : Nat) (s : List UInt8) : many8 f (k + j) s = (many8 f k s).bind fun p => (many8 f j p.2).bind fun q => some (p.1 ++ q.1, q.2) := by
  induction k generalizing s with
  | zero =>
    rw [Nat.zero_add]
    show _ = (many8 f j s).bind fun q => some ([] ++ q.1, q.2)
    cases many8 f j s <;> rfl
  | succ k ih =>
    rw [show k + 1 + j = (k + j) + 1 by omega]
    show (f s).bind (fun p => (many8 f (k + j) p.2).bind fun q => some (p.1 :: q.1, q.2)) = ((f s).bind (fun p => (many8 f k p.2).bind fun q => some (p.1 :: q.1, q.2))).bind _
    cases f s with
    | none => rfl
    | some p =>
      simp only [Option.bind_some]
      rw [ih]
      cases many8 f k p.2 with
      | none => rfl
      | some q =>
        simp only [Option.bind_some]
        cases many8 f j q.2 <;> rfl
theorem many8_stop {k n : Nat} {s t : List UInt8} {v : List α} (h : many8 f k s = some (v, t)) (hn : k < n) (e : f t = none) : many8 f n s = none := by
  obtain ⟨j, rfl⟩ : ∃ j, n = k + (j + 1) := ⟨n - k - 1, by omega⟩
  rw [many8_add, h]
  show ((f t).bind _).bind _ = none
  rw [e]; rfl
theorem many8_step {k : Nat} {s t t' : List UInt8} {v : List α} {x : α} (h : many8 f k s = some (v, t)) (e : f t = some (x, t')) : many8 f (k + 1) s = some (v ++ [x], t') := by
  rw [many8_add, h]
  show ((f t).bind _).bind _ = _
  rw [e]; rfl
end
end Go.Proofs.Ythggafdfglojaaa
namespace Go.Proofs.Ythggafdfglojaaa
open Go.RowKit
set_option maxRecDepth 100000
/-- the program's own stop -/
def stop8 : List PanicEntry := [{ v := .iface 29 (.int .i64 82), recovered := false }]
abbrev RL8 (w : World) (g : Nat) (s : List UInt8) : Prop := Lies w g 104 #[.string (str s)]
/-- what a call of the reader's tells: a value, and what is left; or it stops -/
def Got8 {α : Type} (g : Nat) (w : World) (r : Option (α × List UInt8)) (v : α → Ending → World → Prop) (e : Ending) (w' : World) : Prop :=
  Only g w w' ∧ (r = none → e = .panicked stop8) ∧ ∀ a s, r = some (a, s) → v a e w' ∧ RL8 w' g s
theorem got_stop {α : Type} {g : Nat} {w w' : World} {r : Option (α × List UInt8)} {v : α → Ending → World → Prop} (h : Only g w w') (hr : r = none) : Got8 g w r v (.panicked stop8) w' :=
  ⟨h, fun _ => rfl, fun a s e => by rw [hr] at e; cases e⟩
theorem got_some {α : Type} {g : Nat} {w w' : World} {r : Option (α × List UInt8)} {v : α → Ending → World → Prop} {e : Ending} {a : α} {s : List UInt8} (h : Only g w w') (hr : r = some (a, s)) (hv : v a e w') (hl : RL8 w' g s) : Got8 g w r v e w' :=
  ⟨h, (fun e => by rw [hr] at e; cases e), fun b t e => by rw [hr] at e; cases e; exact ⟨hv, hl⟩⟩
/-- bytes' number, not wrapped -/
def ns8 : List UInt8 → Nat
  | [] => 0
  | b :: l => ns8 l * 256 + b.toNat
theorem ns_lt (l : List UInt8) : ns8 l < 256 ^ l.length := by
  induction l with
  | nil => decide
  | cons b l ih =>
    have := b.toNat_lt
    show ns8 l * 256 + b.toNat < _
    rw [List.length_cons, Nat.pow_succ]; omega
theorem ns_pl (l : List UInt8) : plN8 l = wrap64 (ns8 l : Int) := by
  induction l with
  | nil => exact (wrap64_fit (by decide) (by decide)).symm
  | cons b l ih =>
    show wrap64 (plN8 l * 256 + (b.toNat : Int)) = wrap64 ((ns8 l * 256 + b.toNat : Nat) : Int)
    rw [ih]; unfold wrap64; omega
theorem ns_last (l : List UInt8) (b : UInt8) : ns8 (l ++ [b]) = ns8 l + b.toNat * 256 ^ l.length := by
  induction l with
  | nil => simp [ns8]
  | cons a l ih =>
    show ns8 (l ++ [b]) * 256 + a.toNat = ns8 l * 256 + a.toNat + _
    rw [ih, List.length_cons, Nat.pow_succ, Nat.add_mul]
    have : b.toNat * 256 ^ l.length * 256 = b.toNat * (256 ^ l.length * 256) := Nat.mul_assoc ..
    omega
theorem pow_7 {k : Nat} (hk : k ≤ 7) : 256 ^ k ≤ 72057594037927936 := by
  have : (256 : Nat) ^ 7 = 72057594037927936 := by decide
  rw [← this]; exact Nat.pow_le_pow_right (by decide) hk
theorem or_top (m k b : Nat) (hk : k ≤ 7) (hm : m < 256 ^ k) (hb : b < 256) : bits .or .i64 (m : Int) (wrap64 ((b * 256 ^ k : Nat) : Int)) = wrap64 ((m + b * 256 ^ k : Nat) : Int) := by
  have h7 := pow_7 hk
  have e28 : (256 : Nat) ^ k = 2 ^ (8 * k) := by rw [Nat.pow_mul]
  obtain ⟨p, hp⟩ : ∃ p, p = 256 ^ k := ⟨_, rfl⟩
  have hbp : b * p < 256 * p ∨ p = 0 := by
    rcases Nat.eq_zero_or_pos p with h | h
    · exact .inr h
    · exact .inl (Nat.mul_lt_mul_of_pos_right hb h)
  rw [← hp] at hm h7 e28 ⊢
  have hx : b * p < 18446744073709551616 := by omega
  show IntKind.i64.wrap ((BitVec.ofInt 64 (m : Int) ||| BitVec.ofInt 64 (wrap64 ((b * p : Nat) : Int))).toNat : Nat) = _
  have e64 : (2 : Nat) ^ 64 = 18446744073709551616 := by decide
  have e1 : (BitVec.ofInt 64 (m : Int)).toNat = m := by
    rw [BitVec.toNat_ofInt, e64]
    have h : (m : Int) % ((18446744073709551616 : Nat) : Int) = m := by omega
    rw [h, Int.toNat_natCast]
  have e2 : (BitVec.ofInt 64 (wrap64 ((b * p : Nat) : Int))).toNat = b * p := by
    generalize b * p = q at hx ⊢
    rw [BitVec.toNat_ofInt, e64]
    have h : wrap64 (q : Int) % ((18446744073709551616 : Nat) : Int) = (q : Int) := by
      unfold wrap64; omega
    rw [h, Int.toNat_natCast]
  have e3 : m ||| b * p = m + b * p := by
    have := Nat.two_pow_add_eq_or_of_lt (i := 8 * k) (b := m) (by rw [← e28]; exact hm) b
    rw [← e28, Nat.mul_comm p b] at this
    rw [Nat.or_comm, ← this, Nat.add_comm]
  rw [BitVec.toNat_or, e1, e2, e3, wrap_is]
set_option maxHeartbeats 1000000 in
theorem pbytes_any8 (s : List UInt8) (n : Nat) (_hn : n ≤ 1000) (g : Nat) (w : World) (hr : RL8 w g s) (_hl : s.length ≤ 100000) :
    Calls Try.prog 98 #[.pointer (some ⟨g, 0, none⟩), .int .i64 n] w (Got8 g w (pk8 n s) fun v e _ => e = .returned (.string (str v))) := by
  have HR := hid hr
  have c0 := hr.cell 0
  have f0 := hr.frozen 0
  simp only [List.getElem?_toArray, List.getElem?_cons_zero] at c0
  have hsz := str_size s
  by_cases h1 : s.length < n
  · have HE : Hid (pk8 n s = none) := if_pos h1
    have h1I : (s.length : Int) < n := by omega
    have HO := hid (only_below (g := g) (Below.refl w.heap.size w))
    clear hr
    go_enter Try.func98, Try.ntmps98
    go_wp2
    exact ⟨rfl, got_stop HO.out HE.out⟩
  · have hml : n ≤ s.length := by omega
    have hms : n ≤ (str s).size := by omega
    have hmI : ¬ (s.length : Int) < (n : Int) := by omega
    have hmJ : (n : Int) ≤ (s.length : Int) := by omega
    have HE : Hid (pk8 n s = some (s.take n, s.drop n)) := if_neg h1
    have x1 := str_extract s 0 n
    have x2 := str_extract s n s.length
    rw [List.drop_zero] at x1
    rw [List.take_length] at x2
    have HG : Hid (Got8 g w (pk8 n s) (fun v e _ => e = .returned (.string (str v))) (.returned (.string (str (s.take n)))) (w.setCell ⟨g, 0, none⟩ (.string (str (s.drop n))))) :=
      got_some (only_set _ _ _ _) HE.out rfl (HR.out.set_ 0 (.string (str (s.drop n))))
    clear hr HE
    go_enter Try.func98, Try.ntmps98
    go_wp2
    go_ret
    exact HG.out
theorem take_last (l : List UInt8) (k : Nat) (h : k < l.length) : l.take (k + 1) = l.take k ++ [l[k]] := List.take_succ_eq_append_getElem h
set_option maxHeartbeats 1000000 in
theorem pnum_any8 (s : List UInt8) (n : Nat) (hn : n ≤ 8) (g : Nat) (w : World) (hr : RL8 w g s) (hl : s.length ≤ 100000) :
    Calls Try.prog 119 #[.pointer (some ⟨g, 0, none⟩), .int .i64 n] w (Got8 g w ((pk8 n s).bind fun p => some (plN8 p.1, p.2)) fun v e _ => e = .returned (.int .i64 v)) := by
  have HR := hid hr
  rcases hp : pk8 n s with _ | ⟨v, s'⟩
  · have HP := hid hp
    clear hr hp
    go_enter Try.func119, Try.ntmps119
    go_wp2_with fail
    refine (pbytes_any8 s n (by omega) g _ HR.out hl).mono ?_
    rintro e w1 ⟨h1, h2, -⟩
    obtain rfl := h2 HP.out
    have H1 := hid h1
    clear h1 h2
    go_wp2_with fail
    exact ⟨rfl, got_stop H1.out rfl⟩
  · have HP := hid hp
    have hvl : v.length = n := (pk8_len hp).1
    have hsz := str_size v
    clear hr hp
    go_enter Try.func119, Try.ntmps119
    go_wp2_with fail
    refine (pbytes_any8 s n (by omega) g _ HR.out hl).mono ?_
    rintro e w1 ⟨h1, -, h2⟩
    obtain ⟨rfl, h3⟩ := h2 v s' HP.out
    have H1 := hid h1
    have H3 := hid h3
    clear h1 h2 h3
    go_wp2_with fail
    go_loopw [12, 6] (fun i x wr => ∃ k : Nat, k ≤ n ∧ i = .int .i64 k ∧ x = .int .i64 (wrap64 (ns8 (v.take k))) ∧ wr = w1) (fun i _ _ => n - (intOf i).toNat)
    case atStart => exact ⟨0, Nat.zero_le _, rfl, by rw [← ns_pl]; rfl, rfl⟩
    case round =>
      obtain ⟨k, hk, rfl, rfl, rfl⟩ := hrel
      by_cases hlt : k < n
      · have hj : k < v.length := by omega
        have hjs : k < (str v).size := by omega
        have hjI : (k : Int) < (n : Int) := by omega
        obtain ⟨m, hm⟩ : ∃ m, m = ns8 (v.take k) := ⟨_, rfl⟩
        have hm1 : m < 256 ^ k := by
          have := ns_lt (v.take k)
          rw [List.length_take, Nat.min_eq_left (by omega)] at this
          rw [hm]; exact this
        have hm7 := pow_7 (k := k) (by omega)
        rw [← hm]
        obtain ⟨c, hc⟩ : ∃ c, c = (v[k]'hj).toNat := ⟨_, rfl⟩
        have hcl : c < 256 := by rw [hc]; exact (v[k]'hj).toNat_lt
        have e1 : (((str v)[k]'hjs).toNat : Int) = (c : Int) := (congrArg (fun b : UInt8 => (b.toNat : Int)) (str_at v k hjs hj)).trans (by rw [hc])
        have e2 : wrap64 (m : Int) = m := wrap64_fit (by omega) (by omega)
        have e3 : IntKind.i64.wrap (8 * (k : Int)) = 8 * (k : Int) := IntWalk.i64_in _ ⟨by omega, by omega⟩
        have e4 : IntKind.i64.wrap (c : Int) = c := IntWalk.i64_in _ ⟨by omega, by omega⟩
        have e5 : ¬ 8 * (k : Int) < 0 := by omega
        rw [e2]
        clear hm7
        have e6 : bits .or .i64 (m : Int) (wrap64 ((c : Int) * 2 ^ (8 * k))) = wrap64 ((ns8 (v.take (k + 1)) : Nat) : Int) := by
          have ep : (c : Int) * 2 ^ (8 * k) = ((c * 256 ^ k : Nat) : Int) := by
            rw [Int.natCast_mul, Int.natCast_pow, Int.pow_mul]; rfl
          rw [ep, or_top m k c (by omega) hm1 hcl, take_last v k hj, ns_last, ← hm, hc, List.length_take, Nat.min_eq_left (by omega)]
        obtain ⟨z, hz⟩ : ∃ z, z = wrap64 ((ns8 (v.take (k + 1)) : Nat) : Int) := ⟨_, rfl⟩
        have HZ := hid hz
        rw [← hz] at e6
        clear hm hm1 hc hz
        go_wp2
        go_round
        case rel => exact ⟨k + 1, by omega, by first | rfl | go_num, by rw [← HZ.out], trivial⟩
        case measure => simp only [intOf]; omega
      · obtain rfl : k = n := by omega
        have HN : Hid (wrap64 ((ns8 (v.take k) : Nat) : Int) = plN8 v) := by
          show _ = _
          rw [List.take_of_length_le (by omega), ← ns_pl]
        rw [HN.out]
        go_wp2
        go_ret
        exact got_some H1.out rfl rfl H3.out
theorem wrap_32 {x : Int} (h0 : 0 ≤ x) (h1 : x < 4294967296) : wrap32 x = sgn x := by
  unfold wrap32 sgn
  split <;> omega
theorem pl_four_lt {l : List UInt8} (h : l.length = 4) : 0 ≤ plN8 l ∧ plN8 l < 4294967296 := by
  obtain ⟨v, hv, hb⟩ := pl_bound l (by omega)
  rw [h] at hb
  have h4 : (256 : Nat) ^ 4 = 4294967296 := by decide
  omega
theorem sgn_range {x : Int} (h0 : 0 ≤ x) (h1 : x < 4294967296) : -2147483648 ≤ sgn x ∧ sgn x < 2147483648 := by
  unfold sgn
  split <;> omega
theorem wd8_range {s : List UInt8} {p : Int × List UInt8} (e : wd8 s = some p) : -2147483648 ≤ p.1 ∧ p.1 < 2147483648 := by
  unfold wd8 at e
  obtain ⟨q, hq, e⟩ := Option.bind_eq_some_iff.1 e
  cases e
  obtain ⟨h0, h1⟩ := pl_four_lt (pk8_len hq).1
  exact sgn_range h0 h1
set_option maxHeartbeats 1000000 in
theorem pword_any8 (s : List UInt8) (g : Nat) (w : World) (hr : RL8 w g s) (hl : s.length ≤ 100000) :
    Calls Try.prog 99 #[.pointer (some ⟨g, 0, none⟩)] w (Got8 g w (wd8 s) fun v e _ => e = .returned (.int .i64 v)) := by
  have HR := hid hr
  rcases hp : pk8 4 s with _ | ⟨v, s'⟩
  · have HP : Hid (((pk8 4 s).bind fun p => some (plN8 p.1, p.2)) = none) := by show _ = _; rw [hp]; rfl
    have HQ : Hid (wd8 s = none) := by show _ = _; unfold wd8; rw [hp]; rfl
    clear hr hp
    go_enter Try.func99, Try.ntmps99
    go_wp2_with fail
    refine (pnum_any8 s 4 (by omega) g _ HR.out hl).mono ?_
    rintro e w1 ⟨h1, h2, -⟩
    obtain rfl := h2 HP.out
    have H1 := hid h1
    clear h1 h2
    go_wp2_with fail
    exact ⟨rfl, got_stop H1.out HQ.out⟩
  · have HP : Hid (((pk8 4 s).bind fun p => some (plN8 p.1, p.2)) = some (plN8 v, s')) := by show _ = _; rw [hp]; rfl
    have HQ : Hid (wd8 s = some (sgn (plN8 v), s')) := by show _ = _; unfold wd8; rw [hp]; rfl
    obtain ⟨x0, x1⟩ := pl_four_lt (pk8_len hp).1
    obtain ⟨y0, y1⟩ := sgn_range x0 x1
    have hw := wrap_32 x0 x1
    obtain ⟨x, hx⟩ : ∃ x, x = plN8 v := ⟨_, rfl⟩
    rw [← hx] at HP HQ x0 x1 y0 y1 hw
    obtain ⟨y, hy⟩ : ∃ y, y = sgn x := ⟨_, rfl⟩
    rw [← hy] at HQ y0 y1 hw
    have hw2 : IntKind.i32.wrap x = y := by rw [← hw, IntKind.wrap_i32]; unfold wrap32; rfl
    have hw3 : IntKind.i64.wrap y = y := IntWalk.i64_in _ ⟨by omega, by omega⟩
    clear hr hp hx hy
    go_enter Try.func99, Try.ntmps99
    go_wp2_with fail
    refine (pnum_any8 s 4 (by omega) g _ HR.out hl).mono ?_
    rintro e w1 ⟨h1, -, h2⟩
    obtain ⟨rfl, h3⟩ := h2 x s' HP.out
    have H1 := hid h1
    have H3 := hid h3
    clear h1 h2 h3
    go_wp2_with fail
    go_ret
    exact got_some H1.out HQ.out rfl H3.out
set_option maxHeartbeats 1000000 in
theorem pcount_any8 (s : List UInt8) (most : Int) (_hm0 : 0 ≤ most) (_hm1 : most ≤ 1000) (g : Nat) (w : World) (hr : RL8 w g s) (hl : s.length ≤ 100000) :
    Calls Try.prog 100 #[.pointer (some ⟨g, 0, none⟩), .int .i64 most] w (Got8 g w (ct8 most s) fun v e _ => e = .returned (.int .i64 v)) := by
  have HR := hid hr
  rcases hp : wd8 s with _ | ⟨x, s'⟩
  · have HP := hid hp
    have HQ : Hid (ct8 most s = none) := by show _ = _; unfold ct8; rw [hp]; rfl
    clear hr hp
    go_enter Try.func100, Try.ntmps100
    go_wp2_with fail
    refine (pword_any8 s g _ HR.out hl).mono ?_
    rintro e w1 ⟨h1, h2, -⟩
    obtain rfl := h2 HP.out
    have H1 := hid h1
    clear h1 h2
    go_wp2_with fail
    exact ⟨rfl, got_stop H1.out HQ.out⟩
  · have HP := hid hp
    have HC : Hid (ct8 most s = if x < 0 ∨ most < x then none else some (x, s')) := by show _ = _; unfold ct8; rw [hp]; rfl
    clear hr hp
    by_cases k0 : x < 0
    · have HQ : Hid (ct8 most s = none) := by show _ = _; rw [HC.out, if_pos (.inl k0)]
      go_enter Try.func100, Try.ntmps100
      go_wp2_with fail
      refine (pword_any8 s g _ HR.out hl).mono ?_
      rintro e w1 ⟨h1, -, h2⟩
      obtain ⟨rfl, h3⟩ := h2 x s' HP.out
      have H1 := hid h1
      clear h1 h2 h3
      go_wp2
      exact ⟨rfl, got_stop H1.out HQ.out⟩
    · by_cases k1 : most < x
      · have HQ : Hid (ct8 most s = none) := by show _ = _; rw [HC.out, if_pos (.inr k1)]
        go_enter Try.func100, Try.ntmps100
        go_wp2_with fail
        refine (pword_any8 s g _ HR.out hl).mono ?_
        rintro e w1 ⟨h1, -, h2⟩
        obtain ⟨rfl, h3⟩ := h2 x s' HP.out
        have H1 := hid h1
        clear h1 h2 h3
        go_wp2
        exact ⟨rfl, got_stop H1.out HQ.out⟩
      · have HQ : Hid (ct8 most s = some (x, s')) := by show _ = _; rw [HC.out, if_neg (by omega)]
        go_enter Try.func100, Try.ntmps100
        go_wp2_with fail
        refine (pword_any8 s g _ HR.out hl).mono ?_
        rintro e w1 ⟨h1, -, h2⟩
        obtain ⟨rfl, h3⟩ := h2 x s' HP.out
        have H1 := hid h1
        have H3 := hid h3
        clear h1 h2 h3
        go_wp2
        go_ret
        exact got_some H1.out HQ.out rfl H3.out
end Go.Proofs.Ythggafdfglojaaa
namespace Go.Proofs.Ythggafdfglojaaa
open Go.RowKit
set_option maxRecDepth 100000
/-- a list of numbers, of the call's own -/
def ListG8 (w : World) (v : List Int) (e : Ending) (w' : World) : Prop :=
  ∃ A c, e = .returned (.slice A v.length c) ∧ w'.ownsRow w.heap.size 3 1 (.slice A v.length c) v.length (v.map (Value.int .i64))
theorem many8_len {α : Type} {f : List UInt8 → Option (α × List UInt8)} (hf : ∀ s p, f s = some p → p.2.length ≤ s.length) {k : Nat} {s : List UInt8} {p : List α × List UInt8} (e : many8 f k s = some p) : p.1.length = k ∧ p.2.length ≤ s.length := by
  induction k generalizing s p with
  | zero => cases e; exact ⟨rfl, Nat.le_refl _⟩
  | succ k ih =>
    obtain ⟨a, ha, e⟩ := Option.bind_eq_some_iff.1 (show (f s).bind _ = _ from e)
    obtain ⟨b, hb, e⟩ := Option.bind_eq_some_iff.1 e
    cases e
    obtain ⟨i1, i2⟩ := ih hb
    have := hf s a ha
    exact ⟨by simp [i1], by simp only; omega⟩
set_option maxHeartbeats 2000000 in
theorem plist_any8 (s : List UInt8) (most : Int) (hm0 : 0 ≤ most) (hm1 : most ≤ 1000) (g : Nat) (w : World) (hr : RL8 w g s) (hl : s.length ≤ 100000) :
    Calls Try.prog 102 #[.pointer (some ⟨g, 0, none⟩), .int .i64 most] w (Got8 g w (ls8 most s) (ListG8 w)) := by
  have hgw : g < w.heap.size := hr.lt
  have HR := hid hr
  rcases hp : ct8 most s with _ | ⟨n, s'⟩
  · have HP := hid hp
    have HQ : Hid (ls8 most s = none) := by show _ = _; unfold ls8; rw [hp]; rfl
    clear hr hp
    go_enter Try.func102, Try.ntmps102
    go_wp2_with fail
    refine (pcount_any8 s most hm0 hm1 g _ HR.out hl).mono ?_
    rintro e w1 ⟨h1, h2, -⟩
    obtain rfl := h2 HP.out
    have H1 := hid h1
    clear h1 h2
    go_wp2_with fail
    exact ⟨rfl, got_stop H1.out HQ.out⟩
  · have HP := hid hp
    have HC : Hid (ls8 most s = many8 wd8 n.toNat s') := by show _ = _; unfold ls8; rw [hp]; rfl
    obtain ⟨hs', hn0, hn1⟩ := ct8_len hp
    simp only at hs' hn0 hn1
    obtain ⟨m, rfl⟩ : ∃ m : Nat, n = m := ⟨n.toNat, by omega⟩
    rw [Int.toNat_natCast] at HC
    clear hr hp
    go_enter Try.func102, Try.ntmps102
    go_wp2_with fail
    refine (pcount_any8 s most hm0 hm1 g _ HR.out hl).mono ?_
    rintro e w1 ⟨h1, -, h2⟩
    obtain ⟨rfl, h3⟩ := h2 m s' HP.out
    have H1 := hid h1
    have H3 := hid h3
    clear h1 h2 h3
    go_wp2_with fail
    go_loopw [9, 5] (fun i x wr => ∃ (k : Nat) (v : List Int) (t : List UInt8) (A : Option Addr) (c : Nat), k ≤ m ∧ i = .int .i64 k ∧ x = .slice A k c ∧ many8 wd8 k s' = some (v, t) ∧ wr.ownsRow w.heap.size 3 1 (.slice A k c) k (v.map (Value.int .i64)) ∧ RL8 wr g t ∧ Only g w wr) (fun i _ _ => m - (intOf i).toNat)
    case atStart => exact ⟨0, [], s', none, 0, Nat.zero_le _, rfl, rfl, rfl, World.ownsRow_nil _ _ _ _, H3.out, H1.out⟩
    case round =>
      obtain ⟨k, v, t, A, c, hk, rfl, rfl, hv, hown, hrd, honl⟩ := hrel
      obtain ⟨hvl, htl⟩ := many8_len (fun s p => wd8_len) hv
      simp only at hvl htl
      have HV := hid hv
      have HO := hid hown
      have HD := hid hrd
      have HY := hid honl
      clear hv hown hrd honl
      by_cases hlt : k < m
      · have hltI : (k : Int) < (m : Int) := by omega
        rcases hq : wd8 t with _ | ⟨y, t'⟩
        · have HQ := hid hq
          have HN : Hid (ls8 most s = none) := by show _ = _; rw [HC.out]; exact many8_stop HV.out hlt hq
          clear hq
          go_wp2_with fail
          refine (pword_any8 t g _ HD.out (by omega)).mono ?_
          rintro e w2 ⟨h1, h2, -⟩
          obtain rfl := h2 HQ.out
          have H2 := hid (HY.out.then_ h1)
          clear h1 h2
          go_wp2_with fail
          exact ⟨rfl, got_stop H2.out HN.out⟩
        · have HQ := hid hq
          have HN := hid (many8_step HV.out hq)
          clear hq
          go_wp2_with fail
          refine (pword_any8 t g _ HD.out (by omega)).mono ?_
          rintro e w2 ⟨h1, -, h2⟩
          obtain ⟨rfl, h3⟩ := h2 y t' HQ.out
          have HO2 := hid (own_later (h1.own HO.out (own_off HO.out hgw)) (below_alloc w2 (.cells #[.int .i64 y] 3)))
          have HD2 := hid (h3.alloc (.cells #[.int .i64 y] 3))
          have HY2 := hid ((HY.out.then_ h1).then_ (only_below (below_alloc w2 (.cells #[.int .i64 y] 3))))
          have HN2 := hid (Lies.new w2 3 #[.int .i64 y])
          have hz2 : w.heap.size ≤ (w2.alloc (.cells #[.int .i64 y] 3)).heap.size := HY2.out.size
          clear h1 h2 h3
          go_wp2_with (at_builtin; refine wpList_append_one rfl (.tmp 11) (.tmp 14) rfl w.heap.size _ _ _ rfl HO2.out _ _ rfl HN2.out (by omega) hz2 ?_)
          intro v' w' h1 h2
          obtain ⟨A2, c2, rfl⟩ := own_form h1
          have E1 : Hid (w'.ownsRow w.heap.size 3 1 (.slice A2 (k + 1) c2) (k + 1) ((v ++ [y]).map (Value.int .i64))) := by
            show World.ownsRow _ _ _ _ _ _ _
            rw [List.map_append]; exact h1
          have E2 : Hid (RL8 w' g t') := lies_grown h2 HD2.out (own_off HO2.out hgw)
          have E3 := hid (HY2.out.grown h2 (fun j hj => (HO2.out.lt j hj).1))
          clear h1 h2
          go_wp2_with fail
          go_roundw
          case rel => exact ⟨k + 1, v ++ [y], t', A2, c2, by omega, by go_num, rfl, HN.out, E1.out, E2.out, E3.out⟩
          case measure => simp only [intOf]; omega
      · obtain rfl : k = m := by omega
        go_wp2_with fail
        go_ret
        refine got_some HY.out (HC.out.trans HV.out) ⟨A, c, ?_, ?_⟩ HD.out
        · rw [hvl]; rfl
        · rw [hvl]; exact HO.out
end Go.Proofs.Ythggafdfglojaaa
