/- What the laws lean on: the calls' contracts with their answers, and all lengths, as letters. -/
import Derived.Test.YtimmoaomhilaeaaTF16
namespace Go.Proofs.Ytimmoaomhilaeaa
open Go.RowKit
set_option maxRecDepth 100000
theorem ints_two16 {w : World} {b : Nat} {x y : Int} (h : Lies w b 3 #[.int .i64 x, .int .i64 y]) : IntsR w (some ⟨b, 0, none⟩) [x, y] := fun _ => by
  refine ⟨b, 0, rfl, h.lt, fun j z hj => ?_⟩
  match j, hj with
  | 0, hj => cases hj; exact h.cell 0
  | 1, hj => cases hj; exact h.cell 1
  | n + 2, hj => simp at hj
def DrawQ (w : World) (n : Int) (u : Tp) (a b : Nat) (er : Int) (e : Ending) (w' : World) : Prop :=
  ∃ P p Q q, e = .returned (.tuple #[.int .i64 n, .agg #[.slice P a p, .slice Q b q], .int .i64 er]) ∧ RdF w' w.heap.size P u.log ∧ RdF w' w.heap.size Q u.rest ∧ (P = none → p = 0) ∧ (Q = none → q = 0) ∧ a ≤ p ∧ b ≤ q ∧ Below w.heap.size w w'
theorem pdrawE {t u : Tp} {k n er : Int} {a b a' b' : Nat} (hd : drN t k = n ∧ drT t k = u ∧ drE t k = er) (ha : t.log.length = a) (hb : t.rest.length = b) (ha' : u.log.length = a') (hb' : u.rest.length = b') (A B : Option Addr) (c d : Nat) (w : World) (hA : IntsR w A t.log) (hB : IntsR w B t.rest) (nA : A = none → c = 0) (nB : B = none → d = 0) (lA : a ≤ c) (lB : b ≤ d) (hl : a + b ≤ 1048576) :
    Calls Try.prog 8 #[.agg #[.slice A a c, .slice B b d], .int .i64 k] w (DrawQ w n u a' b' er) := by
  subst ha hb ha' hb'
  obtain ⟨rfl, rfl, rfl⟩ := hd
  exact pdraw_any16 t A B c d w hA hB nA nB lA lB k hl
def DrawR (w : World) (n : Int) (u : Tp) (a b : Nat) (er : Int) (e : Ending) (w' : World) : Prop :=
  ∃ P p Q q, e = .returned (.tuple #[.int .i64 n, .agg #[.slice P a p, .slice Q b q], .int .i64 er]) ∧ IntsR w' P u.log ∧ IntsR w' Q u.rest ∧ (P = none → p = 0) ∧ (Q = none → q = 0) ∧ a ≤ p ∧ b ≤ q ∧ Below w.heap.size w w'
theorem rdrawE {t u : Tp} {k n er : Int} {a b a' b' : Nat} (hd : drN t k = n ∧ drT t k = u ∧ drE t k = er) (ha : t.log.length = a) (hb : t.rest.length = b) (ha' : u.log.length = a') (hb' : u.rest.length = b') (A B : Option Addr) (c d : Nat) (w : World) (hA : IntsR w A t.log) (hB : IntsR w B t.rest) (nA : A = none → c = 0) (nB : B = none → d = 0) (lA : a ≤ c) (lB : b ≤ d) (hl : a + b ≤ 1048576) :
    Calls Try.prog 9 #[.agg #[.slice A a c, .slice B b d], .int .i64 k] w (DrawR w n u a' b' er) := by
  subst ha hb ha' hb'
  obtain ⟨rfl, rfl, rfl⟩ := hd
  exact rdraw_any16 t A B c d w hA hB nA nB lA lB k hl
def DivQ (w : World) (u : Tp) (a b : Nat) (er : Int) (e : Ending) (w' : World) : Prop :=
  ∃ P p Q q, e = .returned (.tuple #[.agg #[.slice P a p, .slice Q b q], .int .i64 er]) ∧ RdF w' w.heap.size P u.log ∧ RdF w' w.heap.size Q u.rest ∧ (P = none → p = 0) ∧ (Q = none → q = 0) ∧ a ≤ p ∧ b ≤ q ∧ Below w.heap.size w w'
theorem pdivE {t u : Tp} {k er : Int} {a b a' b' : Nat} (hd : dvT t k = u ∧ dvE t k = er) (ha : t.log.length = a) (hb : t.rest.length = b) (ha' : u.log.length = a') (hb' : u.rest.length = b') (A B : Option Addr) (c d : Nat) (w : World) (hA : IntsR w A t.log) (hB : IntsR w B t.rest) (nA : A = none → c = 0) (nB : B = none → d = 0) (lA : a ≤ c) (lB : b ≤ d) (hl : a + b ≤ 1048576) :
    Calls Try.prog 10 #[.agg #[.slice A a c, .slice B b d], .int .i64 k] w (DivQ w u a' b' er) := by
  subst ha hb ha' hb'
  obtain ⟨rfl, rfl⟩ := hd
  exact pdiverge_any16 t A B c d w hA hB nA nB lA lB k hl
def DivR (w : World) (u : Tp) (a b : Nat) (er : Int) (e : Ending) (w' : World) : Prop :=
  ∃ P p Q q, e = .returned (.tuple #[.agg #[.slice P a p, .slice Q b q], .int .i64 er]) ∧ IntsR w' P u.log ∧ IntsR w' Q u.rest ∧ (P = none → p = 0) ∧ (Q = none → q = 0) ∧ a ≤ p ∧ b ≤ q ∧ Below w.heap.size w w'
theorem rdivE {t u : Tp} {k er : Int} {a b a' b' : Nat} (hd : dvT t k = u ∧ dvE t k = er) (ha : t.log.length = a) (hb : t.rest.length = b) (ha' : u.log.length = a') (hb' : u.rest.length = b') (A B : Option Addr) (c d : Nat) (w : World) (hA : IntsR w A t.log) (hB : IntsR w B t.rest) (nA : A = none → c = 0) (nB : B = none → d = 0) (lA : a ≤ c) (lB : b ≤ d) (hl : a + b ≤ 1048576) :
    Calls Try.prog 11 #[.agg #[.slice A a c, .slice B b d], .int .i64 k] w (DivR w u a' b' er) := by
  subst ha hb ha' hb'
  obtain ⟨rfl, rfl⟩ := hd
  exact rdiverge_any16 t A B c d w hA hB nA nB lA lB k hl
theorem pcheckE {t : Tp} {r : Int} {a b : Nat} (hr : ckT t = r) (ha : t.log.length = a) (hb : t.rest.length = b) (A B : Option Addr) (c d : Nat) (w : World) (hA : IntsR w A t.log) (hB : IntsR w B t.rest) (nA : A = none → c = 0) (nB : B = none → d = 0) (hl : a + b ≤ 1048576) :
    Calls Try.prog 13 #[.agg #[.slice A a c, .slice B b d]] w fun e w' => e = .returned (.int .i64 r) ∧ Below w.heap.size w w' := by
  subst ha hb hr
  exact pcheck_any16 t A B c d w hA hB nA nB hl
theorem rcheckE {t : Tp} {r : Int} {a b : Nat} (hr : ckT t = r) (ha : t.log.length = a) (hb : t.rest.length = b) (A B : Option Addr) (c d : Nat) (w : World) (hA : IntsR w A t.log) (hB : IntsR w B t.rest) (nA : A = none → c = 0) (nB : B = none → d = 0) (hl : a + b ≤ 1048576) :
    Calls Try.prog 14 #[.agg #[.slice A a c, .slice B b d]] w fun e w' => e = .returned (.int .i64 r) ∧ Below w.heap.size w w' := by
  subst ha hb hr
  exact rcheck_any16 t A B c d w hA hB nA nB hl
def AllQ (w : World) (l : List Int) (n : Nat) (e : Ending) (w' : World) : Prop := ∃ P p, e = .returned (.slice P n p) ∧ RdF w' w.heap.size P l ∧ n ≤ p ∧ Below w.heap.size w w'
theorem allQ16 {w : World} {l l' : List Int} {n : Nat} (hl : l = l') (hn : l'.length = n) {e : Ending} {w' : World} (h : IntsOwn16 w l e w') : AllQ w l' n e w' := by
  subst hl hn
  obtain ⟨P, p, rfl, ho, hb⟩ := h
  exact ⟨P, p, rfl, rdf_own16 ho, own_cap ho, hb⟩
theorem pallE {t : Tp} {l : List Int} {a b n : Nat} (hr : allT t = l) (hn : l.length = n) (ha : t.log.length = a) (hb : t.rest.length = b) (A B : Option Addr) (c d : Nat) (w : World) (hA : IntsR w A t.log) (hB : IntsR w B t.rest) (nA : A = none → c = 0) (nB : B = none → d = 0) (hl : a + b ≤ 1000000) :
    Calls Try.prog 16 #[.agg #[.slice A a c, .slice B b d]] w (AllQ w l n) := by
  subst ha hb
  exact (ptall_any16 t A B c d w hA hB nA nB hl).mono fun e w' h => allQ16 hr hn h
theorem rallE {t : Tp} {l : List Int} {a b n : Nat} (hr : allT t = l) (hn : l.length = n) (ha : t.log.length = a) (hb : t.rest.length = b) (A B : Option Addr) (c d : Nat) (w : World) (hA : IntsR w A t.log) (hB : IntsR w B t.rest) (nA : A = none → c = 0) (nB : B = none → d = 0) (hl : a + b ≤ 1048576) :
    Calls Try.prog 17 #[.agg #[.slice A a c, .slice B b d]] w (AllQ w l n) := by
  subst ha hb
  exact (rall_any16 t A B c d w hA hB nA nB hl).mono fun e w' h => allQ16 hr hn h
theorem rsameE {t u : Tp} {r : Bool} {a b a2 b2 : Nat} (hr : saT t u = r) (ha : t.log.length = a) (hb : t.rest.length = b) (ha2 : u.log.length = a2) (hb2 : u.rest.length = b2) (A B : Option Addr) (c d : Nat) (A2 B2 : Option Addr) (c2 d2 : Nat) (w : World) (hA : IntsR w A t.log) (hB : IntsR w B t.rest) (hA2 : IntsR w A2 u.log) (hB2 : IntsR w B2 u.rest) (h1 : a ≤ 1048576) (h2 : b ≤ 1048576) :
    Calls Try.prog 12 #[.agg #[.slice A a c, .slice B b d], .agg #[.slice A2 a2 c2, .slice B2 b2 d2]] w fun e w' => e = .returned (.bool r) ∧ Below w.heap.size w w' := by
  subst ha hb ha2 hb2 hr
  exact rsame_any16 t u A B c d A2 B2 c2 d2 w hA hB hA2 hB2 (by omega) (by omega)
theorem rintsE {x y : List Int} {r : Bool} {a b : Nat} (hr : decide (x = y) = r) (ha : x.length = a) (hb : y.length = b) (A B : Option Addr) (c d : Nat) (w : World) (hA : IntsR w A x) (hB : IntsR w B y) (h1 : a ≤ 1048576) :
    Calls Try.prog 15 #[.slice A a c, .slice B b d] w fun e w' => e = .returned (.bool r) ∧ Below w.heap.size w w' := by
  subst ha hb hr
  exact rints_any x y A B c d w hA hB (by omega)
end Go.Proofs.Ytimmoaomhilaeaa
