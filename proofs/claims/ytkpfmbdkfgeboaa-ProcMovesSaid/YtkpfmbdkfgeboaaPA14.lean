/- Processes that wait, in plain mathematics: what is a process, the list from one on, lists linked anew, and what Insert, Append, Take and Drop answer. -/
import Derived.Test.YtkpfmbdkfgeboaaMP
import Derived.Test.YtkpfmbdkfgeboaaMK0
namespace Go.Proofs.Ytkpfmbdkfgeboaa
open Go.RowKit
def sl14 (h : Hp) (p : Int) (k : Nat) : Int := (obAt h p).slots.getD k 0
def in14 (h : Hp) (p class_ size : Int) : Bool := refB h.objs.length p && (decide ((obAt h p).cls = 2 * class_) && decide (((obAt h p).slots.length : Int) = size))
def wi14 (v most : Int) : Bool := nB v && (decide (0 ≤ nV v) && decide (nV v ≤ most))
/-- a process; a semaphore -/
def pc14 (h : Hp) (p : Int) : Bool := in14 h p 7 4 && (wi14 (sl14 h p 2) 7 && (atB (sl14 h p 0) && (atB (sl14 h p 1) && atB (sl14 h p 3))))
def sm14 (h : Hp) (p : Int) : Bool := in14 h p 8 2 && (wi14 (sl14 h p 0) 1073741823 && atB (sl14 h p 1))
def fr14 (h : Hp) (p : Int) : Bool := pc14 h p && decide (sl14 h p 0 = 0)
/-- the list from p on, behind those of l -/
def go14 (h : Hp) : Nat → List Int → Int → Option (List Int)
  | 0, _, _ => none
  | n + 1, l, p => if p = 0 then some l else if pc14 h p = false ∨ p ∈ l then none else go14 h n (l ++ [p]) (sl14 h p 0)
def ls14 (h : Hp) (f : Int) : Option (List Int) := go14 h (h.objs.length + 1) [] f
/-- what List answers -/
def lr14 (h : Hp) (f : Int) : List Int × Int := if mayB h = false then ([], 1) else match ls14 h f with | none => ([], 141) | some l => (l, 0)
/-- the processes of l, one behind the other -/
def lk14 (h : Hp) : List Int → Hp
  | [] => h
  | p :: t => setH (lk14 h t) p 0 (t.headD 0)
def jl14 (l : List Int) (p : Int) (k : Nat) : List Int := l.take k ++ p :: l.drop k
/-- what Insert and Append answer: b tells who stands behind -/
def jo14 (h : Hp) (f p : Int) (b : Int → Bool) : Hp × Int × Int :=
  if mayB h = false then (zeroH, 0, 1) else match ls14 h f with
  | none => (h, 0, 141)
  | some l => if fr14 h p = false ∨ p ∈ l then (h, 0, 140) else (lk14 h (jl14 l p (l.findIdx b)), (jl14 l p (l.findIdx b)).headD 0, 0)
def pr14 (h : Hp) (p : Int) : Int := nV (sl14 h p 2)
def be14 (h : Hp) (p : Int) (q : Int) : Bool := decide (pr14 h q < pr14 h p)
def is14 (h : Hp) (f p : Int) : Hp × Int × Int := jo14 h f p (be14 h p)
def ap14 (h : Hp) (f p : Int) : Hp × Int × Int := jo14 h f p (fun _ => false)
/-- the one at place k stands in it no more -/
def wl14 (l : List Int) (k : Nat) : List Int := l.take k ++ l.drop (k + 1)
def wo14 (h : Hp) (l : List Int) (k : Nat) : Hp × Int := (lk14 (setH h (l.getD k 0) 0 0) (wl14 l k), (wl14 l k).headD 0)
def tk14 (h : Hp) (f : Int) : Hp × Int × Int × Int :=
  if mayB h = false then (zeroH, 0, 0, 1) else match ls14 h f with
  | none => (h, 0, 0, 141)
  | some l => if l = [] then (h, 0, 0, 141) else ((wo14 h l 0).1, l.getD 0 0, (wo14 h l 0).2, 0)
def dr14 (h : Hp) (f p : Int) : Hp × Int × Int :=
  if mayB h = false then (zeroH, 0, 1) else match ls14 h f with
  | none => (h, 0, 141)
  | some l => if p ∈ l then ((wo14 h l (l.idxOf p)).1, (wo14 h l (l.idxOf p)).2, 0) else (h, 0, 140)
theorem pc_ref14 {h : Hp} {p : Int} (e : pc14 h p = true) : refB h.objs.length p = true ∧ (obAt h p).slots.length = 4 := by
  unfold pc14 in14 at e
  simp only [Bool.and_eq_true, decide_eq_true_eq] at e
  exact ⟨e.1.1, by omega⟩
theorem ref_two14 {n : Nat} {v : Int} (h : refB n v = true) : v = 2 * ((atV v).toNat : Int) ∧ (atV v).toNat < n := by
  obtain ⟨h1, h2, h3⟩ := refB_no h
  refine ⟨?_, by omega⟩
  have := atB_iff.1 h1
  have e : atV v = v / 2 := by unfold atV; rw [if_pos h1]
  omega
/-- of processes, each once, there are no more than objects -/
theorem len_le14 {h : Hp} {l : List Int} (hn : l.Nodup) (hp : ∀ q ∈ l, pc14 h q = true) : l.length ≤ h.objs.length := by
  have e : (l.map fun q => (atV q).toNat).Nodup := by
    unfold List.Nodup
    rw [List.pairwise_map]
    refine List.Pairwise.imp_of_mem (fun {a b} ha hb hne g => hne ?_) hn
    rw [(ref_two14 (pc_ref14 (hp a ha)).1).1, (ref_two14 (pc_ref14 (hp b hb)).1).1, g]
  have := nodup_le e (n := h.objs.length) fun i hi => by
    obtain ⟨q, hq, rfl⟩ := List.mem_map.1 hi
    exact (ref_two14 (pc_ref14 (hp q hq)).1).2
  simpa using this
/-- List's loop, told: those so far, and who comes next -/
structure Go14 (h : Hp) (f : Int) (l : List Int) (p : Int) : Prop where
  go : go14 h (h.objs.length + 1 - l.length) l p = ls14 h f
  nd : l.Nodup
  pc : ∀ q ∈ l, pc14 h q = true
theorem Go14.start (h : Hp) (f : Int) : Go14 h f [] f := ⟨rfl, List.nodup_nil, fun q hq => by cases hq⟩
theorem Go14.fuel {h : Hp} {f p : Int} {l : List Int} (g : Go14 h f l p) : ∃ n, h.objs.length + 1 - l.length = n + 1 ∧ n = h.objs.length + 1 - (l.length + 1) := by
  have := len_le14 g.nd g.pc
  exact ⟨h.objs.length - l.length, by omega, by omega⟩
theorem Go14.fin {h : Hp} {f : Int} {l : List Int} (g : Go14 h f l 0) : ls14 h f = some l := by
  obtain ⟨n, e, -⟩ := g.fuel
  have := g.go
  rw [e] at this
  rw [← this]; rfl
theorem Go14.bad {h : Hp} {f p : Int} {l : List Int} (g : Go14 h f l p) (h0 : p ≠ 0) (hb : pc14 h p = false ∨ p ∈ l) : ls14 h f = none := by
  obtain ⟨n, e, -⟩ := g.fuel
  have := g.go
  rw [e] at this
  rw [← this]
  unfold go14
  rw [if_neg h0, if_pos hb]
theorem Go14.next {h : Hp} {f p : Int} {l : List Int} (g : Go14 h f l p) (h0 : p ≠ 0) (hp : pc14 h p = true) (hn : p ∉ l) : Go14 h f (l ++ [p]) (sl14 h p 0) := by
  obtain ⟨n, e, e2⟩ := g.fuel
  refine ⟨?_, ?_, fun q hq => ?_⟩
  · have := g.go
    rw [e] at this
    unfold go14 at this
    rw [if_neg h0, if_neg (by rw [hp]; simp [hn])] at this
    rw [List.length_append, List.length_singleton, ← e2]
    exact this
  · exact List.nodup_append.2 ⟨g.nd, by simp, fun a ha b hb => by
      obtain rfl : b = p := by simpa using hb
      exact fun e => hn (e ▸ ha)⟩
  · rcases List.mem_append.1 hq with k | k
    · exact g.pc q k
    · obtain rfl : q = p := by simpa using k
      exact hp
/-- what a list that there is has -/
theorem go_some14 {h : Hp} : ∀ (n : Nat) (l : List Int) (p : Int) (m : List Int), l.Nodup → (∀ q ∈ l, pc14 h q = true) → go14 h n l p = some m → m.Nodup ∧ (∀ q ∈ m, pc14 h q = true) ∧ ∃ t, m = l ++ t ∧ t.headD 0 = p
  | 0, _, _, _, _, _, e => by cases e
  | n + 1, l, p, m, hn, hp, e => by
    unfold go14 at e
    split at e
    · rename_i h0
      injection e with e
      subst e
      exact ⟨hn, hp, [], by simp, by rw [h0]; rfl⟩
    · split at e
      · cases e
      · rename_i h0 hb
        have hpp : pc14 h p = true := by simpa using fun g => hb (.inl g)
        have hpn : p ∉ l := fun g => hb (.inr g)
        obtain ⟨k1, k2, t, k3, -⟩ := go_some14 n (l ++ [p]) _ m (List.nodup_append.2 ⟨hn, by simp, fun a ha b hb => by
          obtain rfl : b = p := by simpa using hb
          exact fun e => hpn (e ▸ ha)⟩) (fun q hq => by
          rcases List.mem_append.1 hq with k | k
          · exact hp q k
          · obtain rfl : q = p := by simpa using k
            exact hpp) e
        exact ⟨k1, k2, p :: t, by rw [k3]; simp, rfl⟩
theorem ls_some14 {h : Hp} {f : Int} {l : List Int} (e : ls14 h f = some l) : l.Nodup ∧ (∀ q ∈ l, pc14 h q = true) ∧ l.headD 0 = f ∧ l.length ≤ h.objs.length := by
  obtain ⟨h1, h2, t, h3, h4⟩ := go_some14 _ _ _ _ List.nodup_nil (fun q hq => by cases hq) e
  obtain rfl : l = t := by simpa using h3
  exact ⟨h1, h2, h4, len_le14 h1 h2⟩
end Go.Proofs.Ytkpfmbdkfgeboaa
