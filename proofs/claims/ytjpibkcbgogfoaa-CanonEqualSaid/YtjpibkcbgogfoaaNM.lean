/- Of, step by step: what holds of the plain lists, and of memory, while those met are looked through. -/
import Derived.Test.YtjpibkcbgogfoaaNYR
import Derived.Test.YtjpibkcbgogfoaaCF
import Derived.Test.YtjpibkcbgogfoaaHI
namespace Go.Proofs.Ytjpibkcbgogfoaa
open Go.RowKit
theorem edges_at {h : Hp} {q : Nat} {o : Ob} (ho : h.objs[q]? = some o) : edges h q = edgesO o := by unfold edges; rw [ho]; rfl
theorem Done.more {h : Hp} {M : List Nat} {k : Nat} (d : Done h M k) (hk : k < M.length) {o : Ob} (ho : h.objs[M[k]]? = some o) : Done h (meets h M (edgesO o)) (k + 1) := by
  intro j q p hj hjq hoq v hv
  by_cases hji : j < k
  · exact meets_done _ d (by omega) j q p hji hjq hoq v hv
  · obtain rfl : j = k := by omega
    rw [meets_get (List.getElem?_eq_getElem hk)] at hjq
    obtain rfl : M[j] = q := Option.some.inj hjq
    rw [ho] at hoq
    obtain rfl := Option.some.inj hoq
    exact meets_all _ v hv
theorem cnK_step {h : Hp} {M : List Nat} {k : Nat} (d : Done h M k) (hk : k < M.length) (hlt : ∀ i ∈ M, i < h.objs.length) {o : Ob} (ho : h.objs[M[k]]? = some o) :
    cnK h (meets h M (edgesO o)) (k + 1) = cnK h M k ++ [cnO h (meets h M (edgesO o)) o] := by
  obtain ⟨t, ht⟩ := meets_pre h (edgesO o) M
  rw [ht]
  have hk2 : k < (M ++ t).length := by rw [List.length_append]; omega
  rw [cnK_succ hk2]
  have e1 : (M ++ t)[k] = M[k] := List.getElem_append_left hk
  rw [e1, List.getD_eq_getElem?_getD, ho]
  congr 1
  unfold cnK
  rw [List.take_append_of_le_length (by omega)]
  refine List.map_congr_left fun q hq => ?_
  obtain ⟨j, hj, e⟩ := List.getElem_of_mem hq
  rw [List.length_take] at hj
  rw [List.getElem_take] at e
  have hql : q < h.objs.length := hlt q (by rw [← e]; exact List.getElem_mem _)
  have hoq := List.getElem?_eq_getElem hql
  rw [List.getD_eq_getElem?_getD, hoq]
  exact cnO_pre (fun v hv => d j q h.objs[q] (by omega) (by rw [← e]; exact List.getElem?_eq_getElem _) hoq v hv) t
theorem cnL_eq {h : Hp} {rs : List Int} (e : liE h rs = 0) : rs.map (cnV h (meets h [] rs)) = cnL h rs := by
  rw [cnL_yes e]
  obtain ⟨t, ht⟩ := bfs_pre h h.objs.length (meets h [] rs) 0
  have : ordN h rs = meets h [] rs ++ t := ht
  rw [this]
  exact List.map_congr_left fun v hv => (cnV_pre (meets_all rs v hv) t).symm
theorem Met.okay {h : Hp} {rs : List Int} {M : List Nat} (m : Met h rs M) : Okay h M := ⟨m.nodup, fun _ => m.lt⟩
/-- memory while those met are looked through -/
structure CanW (w2 wr : World) (nb mb : Nat) (A2 : Option Addr) (cap last : Int) (M : List Nat) (A6 : Option Addr) (c6 : Nat) (A5 : Option Addr) (c5 : Nat) (ls : List LO) : Prop where
  num : NumS wr nb mb A6 c6 M
  turns : Turns w2 wr nb mb A2 A6
  own : OwnH wr (w2.heap.size + 1) A5 c5 ls
  off : ∀ l ∈ ls, Off l.S A6
  box : Lies wr w2.heap.size 24 #[.slice A5 ls.length c5, .int .i64 cap, .int .i64 last]
  nb : nb < w2.heap.size
  mb : mb < w2.heap.size
section
variable {w2 wr w' : World} {nb mb : Nat} {A2 A6 A7 A5 : Option Addr} {cap last : Int} {M M2 : List Nat} {c6 c7 c5 : Nat} {ls : List LO}
theorem CanW.boxOff (c : CanW w2 wr nb mb A2 cap last M A6 c6 A5 c5 ls) {a : Addr} (ha : A6 = some a) : w2.heap.size ≠ a.block := by
  obtain ⟨cur, hl⟩ := c.num.rowBlock ha
  exact lies_ne c.box hl (by decide)
theorem CanW.rowOff (c : CanW w2 wr nb mb A2 cap last M A6 c6 A5 c5 ls) {a : Addr} (ha : A6 = some a) : (Value.slice A5 ls.length c5).ownBlock ≠ some a.block := by
  obtain ⟨cur, hl⟩ := c.num.rowBlock ha
  exact own_blk_ne c.own.row hl (by decide)
/-- behind a call that only turns the numbering -/
theorem CanW.turn (c : CanW w2 wr nb mb A2 cap last M A6 c6 A5 c5 ls) (t : Turns wr w' nb mb A6 A7) (n : NumS w' nb mb A7 c7 M2) : CanW w2 w' nb mb A2 cap last M2 A7 c7 A5 c5 ls := by
  have ar := c.num.apart c.own.row (by decide)
  have ai := fun i l hl => c.num.apart (c.own.ints i l hl) (by decide)
  refine ⟨n, c.turns.trans t, ⟨t.row c.own.row ar.1 ar.2 (fun a ha => c.rowOff ha), fun i l hl => t.row (c.own.ints i l hl) (ai i l hl).1 (ai i l hl).2 (off_blk (c.off l (List.mem_of_getElem? hl))), c.own.apart⟩, fun l hl => ?_, t.lies c.box (by have := c.nb; omega) (by have := c.mb; omega) (fun a ha => c.boxOff ha), c.nb, c.mb⟩
  obtain ⟨i, hi, rfl⟩ := List.getElem_of_mem hl
  exact off_turn (c.off _ (List.getElem_mem hi)) t (c.own.ints i _ (List.getElem?_eq_getElem hi))
theorem CanW.later (c : CanW w2 wr nb mb A2 cap last M A6 c6 A5 c5 ls) (hb : Below wr.heap.size wr w') : CanW w2 w' nb mb A2 cap last M A6 c6 A5 c5 ls :=
  ⟨c.num.later hb, c.turns.later (hb.mono c.turns.size), c.own.later hb, c.off, c.box.later hb, c.nb, c.mb⟩
/-- an object is appended, and the list stored -/
theorem CanW.push (c : CanW w2 wr nb mb A2 cap last M A6 c6 A5 c5 ls) {w6 : World} {A8 : Option Addr} {c8 : Nat} {l : LO} (hO : OwnH w6 (w2.heap.size + 1) A8 c8 (ls ++ [l])) (hl : Off l.S A6) (g : wr.grownBy w6 (Value.slice A5 ls.length c5).ownBlock) :
    CanW w2 (w6.setCell ⟨w2.heap.size, 0, none⟩ (.slice A8 (ls.length + 1) c8)) nb mb A2 cap last M A6 c6 A8 c8 (ls ++ [l]) ∧ Lies w6 w2.heap.size 24 #[.slice A5 ls.length c5, .int .i64 cap, .int .i64 last] := by
  have ar := c.num.apart c.own.row (by decide)
  have hb6 : Lies w6 w2.heap.size 24 #[.slice A5 ls.length c5, .int .i64 cap, .int .i64 last] := c.box.grown g (fun e => own_blk_ne c.own.row c.box (by decide) e.symm)
  have n6 := c.num.grown g (fun e => ar.1 e.symm) (fun e => ar.2 e.symm) (fun a ha e => c.rowOff ha e.symm)
  have hgs := grown_set w6 ⟨w2.heap.size, 0, none⟩ (.slice A8 (ls.length + 1) c8)
  have hbw : Below w2.heap.size wr w6 := ⟨g.os, g.tape, g.output, g.size, fun k hk => g.block k (Nat.lt_of_lt_of_le hk c.turns.size) (fun e => by have := (c.own.row.lt k e.symm).1; omega)⟩
  refine ⟨⟨?_, (c.turns.later hbw).later ⟨hgs.os, hgs.tape, hgs.output, hgs.size, fun k hk => hgs.block k (Nat.lt_of_lt_of_le hk (Nat.le_trans c.turns.size g.size)) (by simp; omega)⟩, hO.off hb6 0 _, ?_, ?_, c.nb, c.mb⟩, hb6⟩
  · exact n6.grown hgs (by have := c.nb; simp; omega) (by have := c.mb; simp; omega) (fun a ha e => by
      obtain ⟨cur, hl⟩ := n6.rowBlock ha
      exact lies_ne hb6 hl (by decide) (by simpa using e.symm))
  · intro m hm
    rcases List.mem_append.1 hm with h | h
    · exact c.off m h
    · obtain rfl : m = l := by simpa using h
      exact hl
  · have := hb6.set_ 0 (.slice A8 (ls.length + 1) c8)
    rw [List.length_append]
    simpa using this
end
end Go.Proofs.Ytjpibkcbgogfoaa
