/- What mark.Live answers, said over plain heaps; R.Ints and R4.In walked. -/
import Derived.Test.YthggafdfglojaaaMR
import Derived.Test.YthggafdfglojaaaE
import Derived.Test.YthggafdfglojaaaS
namespace Go.Proofs.Ythggafdfglojaaa
open Go.RowKit
set_option maxRecDepth 100000
def liE (h : Hp) (rs : List Int) : Int := if mayB h = true then (if rs.all (hasB h.objs.length) = true then 0 else 31) else 1
noncomputable def liL (h : Hp) (rs : List Int) : List Int := if liE h rs = 0 then liveL h rs else []
/-- a list of ints of the call's own is returned, and an error -/
def IntsTwo (w : World) (L : List Int) (en : Int) (e : Ending) (w' : World) : Prop :=
  ∃ A c, e = .returned (.tuple #[.slice A L.length c, .int .i64 en]) ∧ IntsR w' A L ∧ (A = none → c = 0) ∧ L.length ≤ c ∧ Below w.heap.size w w'
noncomputable def mhB (h : Hp) (rs : List Int) (v : Int) : Bool := atB v && decide (atV v ∈ liL h rs)
theorem liL_len (h : Hp) (rs : List Int) : (liL h rs).length ≤ h.objs.length := by
  unfold liL
  split
  · rw [liveL_length]; exact liveN_le h rs
  · exact Nat.zero_le _
theorem ob_vals {n : Nat} {o : Ob} (h : obB n o = true) : refB n o.cls = true ∧ ∀ v ∈ o.slots, hasB n v = true := by
  unfold obB at h
  simp only [Bool.and_eq_true] at h
  exact ⟨h.1.1.1, List.all_eq_true.1 h.2⟩
theorem ref_has {n : Nat} {v : Int} (h : refB n v = true) : hasB n v = true := by unfold hasB; rw [h, Bool.or_true]
theorem bool_info : (Try.prog.info? 4).map (fun i => (i.zero, i.size, i.bytes)) = some (some (.bool false), 1, 1) := by kernel_rfl
/-- R.Ints -/
theorem rints_any (xs ys : List Int) (A B : Option Addr) (c d : Nat) (w : World) (ha : IntsR w A xs) (hb : IntsR w B ys) (hx : xs.length ≤ 9223372036854775807) :
    Calls Try.prog 41 #[.slice A xs.length c, .slice B ys.length d] w fun e w' => e = .returned (.bool (decide (xs = ys))) ∧ Below w.heap.size w w' := by
  have HA := hid ha
  have HB := hid hb
  clear ha hb
  by_cases hlen : xs.length = ys.length
  · go_enter Try.func41, Try.ntmps41
    go_wp2
    go_loopw [5] (fun i wr => ∃ k : Nat, k ≤ xs.length ∧ i = .int .i64 k ∧ xs.take k = ys.take k ∧ Below w.heap.size w wr) (fun i _ => xs.length - (intOf i).toNat)
    case atStart => exact ⟨0, Nat.zero_le _, rfl, rfl, Below.refl _ _⟩
    case round =>
      obtain ⟨k, hk, rfl, heq, hbw⟩ := hrel
      have HW := hid hbw
      have HE := hid heq
      clear hbw heq
      by_cases hlt : k < xs.length
      · obtain ⟨bs, os, rfl, hbs, hcs⟩ := HA.out (by omega)
        obtain ⟨bt, ot, rfl, hbt, hct⟩ := HB.out (by omega)
        have hlt' : k < ys.length := by omega
        have hcell : wr.cell? ⟨bs, os + k, none⟩ = some (.int .i64 xs[k]) := (HW.out.cell (p := ⟨bs, os + k, none⟩) hbs).trans (hcs k _ (List.getElem?_eq_getElem hlt))
        have hcelt : wr.cell? ⟨bt, ot + k, none⟩ = some (.int .i64 ys[k]) := (HW.out.cell (p := ⟨bt, ot + k, none⟩) hbt).trans (hct k _ (List.getElem?_eq_getElem hlt'))
        clear hcs hct
        by_cases he : xs[k] = ys[k]
        · have HXY : Hid (xs.take (k + 1) = ys.take (k + 1)) := by show _ = _; rw [List.take_succ_eq_append_getElem hlt, List.take_succ_eq_append_getElem hlt', HE.out, he]
          rw [he] at hcell
          go_wp2
          go_quiet (fail)
          go_wp2
          go_roundw
          case rel => exact ⟨k + 1, by omega, by go_num, HXY.out, below_go HW.out HW.out.size (below_drewN _ _)⟩
          case measure => simp [intOf]; omega
        · have hne : (xs[k] != ys[k]) = true := by simpa using he
          have HNE := hid he
          go_wp2
          go_quiet (fail)
          go_wp2
          go_ret
          refine ⟨?_, below_go HW.out HW.out.size (below_drewN _ _)⟩
          have : ¬ xs = ys := fun e => HNE.out (by simp [e])
          simp [this]
      · have hkn : k = xs.length := by omega
        go_wp2
        go_ret
        refine ⟨?_, HW.out⟩
        have : xs = ys := by
          have := HE.out
          rwa [hkn, List.take_length, hlen, List.take_length] at this
        simp [this]
  · have hne : ¬ ((xs.length : Int) = ys.length) := by omega
    have hne2 : ¬ xs = ys := fun e => hlen (by rw [e])
    go_enter Try.func41, Try.ntmps41
    go_wp2
    go_ret
    exact ⟨by simp [hne2], Below.refl _ _⟩
end Go.Proofs.Ythggafdfglojaaa
