/- The program's deferred closure: it knows the reader's own stop. The program's read: a heap, and roots, or the error of a text that is cut off. -/
import Derived.Test.YthggafdfglojaaaKD8
import Derived.Defers
import Derived.Recover
import Derived.Test.YthggafdfglojaaaKE8
import Derived.Test.YthggafdfglojaaaSM8
namespace Go.Proofs.Ythggafdfglojaaa
open Go.RowKit
set_option maxRecDepth 100000
theorem assert_own8 (w : World) : (Instr.typeAssert (.iface 29 (.int .i64 82)) 20 29 true).run Try.prog w = .ok (.tuple #[.int .i64 82, .bool true]) w := by kernel_rfl
theorem assert_nil8 (w : World) : (Instr.typeAssert .nilIface 20 29 true).run Try.prog w = .ok (.tuple #[.int .i64 0, .bool false]) w := by kernel_rfl
set_option maxHeartbeats 1000000 in
theorem catch_stop8 (a b c : Nat) (w : World) (A R E : Value) (x1 x2 : Value) (ha : Lies w a 24 #[A, x1, x2]) (hb : Lies w b 44 #[R]) (hc : Lies w c 29 #[E]) (hab : a ≠ b) (hac : a ≠ c) (hbc : b ≠ c) :
    CallsD Try.prog 97 #[.pointer (some ⟨a, 0, none⟩), .pointer (some ⟨b, 0, none⟩), .pointer (some ⟨c, 0, none⟩)] (.panicking stop8) w fun e u' w' =>
      e = .returned (.tuple #[]) ∧ settle u' = .returning ∧ Lies w' a 24 #[.slice none 0 0, .int .i64 0, .int .i64 0] ∧ Lies w' b 44 #[.slice none 0 0] ∧ Lies w' c 29 #[.int .i64 82] ∧ ∀ B, B ≤ a → B ≤ b → B ≤ c → Below B w w' := by
  have HA := hid (((((ha.set_ 0 (.slice none 0 0)).set_ 1 (.int .i64 0)).set_ 2 (.int .i64 0)).far (p := ⟨b, 0, none⟩) hab (.slice none 0 0)).far (p := ⟨c, 0, none⟩) hac (.int .i64 82))
  have HB := hid (((((hb.far (p := ⟨a, 0, none⟩) hab.symm (.slice none 0 0)).far (p := ⟨a, 1, none⟩) hab.symm (.int .i64 0)).far (p := ⟨a, 2, none⟩) hab.symm (.int .i64 0)).set_ 0 (.slice none 0 0)).far (p := ⟨c, 0, none⟩) hbc (.int .i64 82))
  have HC := hid (((((hc.far (p := ⟨a, 0, none⟩) hac.symm (.slice none 0 0)).far (p := ⟨a, 1, none⟩) hac.symm (.int .i64 0)).far (p := ⟨a, 2, none⟩) hac.symm (.int .i64 0)).far (p := ⟨b, 0, none⟩) hbc.symm (.slice none 0 0)).set_ 0 (.int .i64 82))
  have HBL := hid (fun (B : Nat) (h1 : B ≤ a) (h2 : B ≤ b) (h3 : B ≤ c) => (((((Below.refl B w).setCell (p := ⟨a, 0, none⟩) h1 (.slice none 0 0)).setCell (p := ⟨a, 1, none⟩) h1 (.int .i64 0)).setCell (p := ⟨a, 2, none⟩) h1 (.int .i64 0)).setCell (p := ⟨b, 0, none⟩) h2 (.slice none 0 0)).setCell (p := ⟨c, 0, none⟩) h3 (.int .i64 82))
  have a0 := ha.cell 0
  have a1 := ha.cell 1
  have a2 := ha.cell 2
  have b0 := hb.cell 0
  have c0 := hc.cell 0
  have fa0 := ha.frozen 0
  have fa1 := ha.frozen 1
  have fa2 := ha.frozen 2
  have fb0 := hb.frozen 0
  have fc0 := hc.frozen 0
  simp only [List.getElem?_toArray, List.getElem?_cons_zero, List.getElem?_cons_succ] at a0 a1 a2 b0 c0
  unfold stop8
  refine callsD_of_wpS Try.func97 rfl fun c₀ cs hu => ?_
  apply wpS_seq
  apply wpS_region
  simp [wpOpsS, go_sem, recoverD, hu, Try.ntmps97, Exit.thenS, assert_own8]
  apply wpS_seq
  apply wpS_region
  simp [wpOpsS, go_sem, Exit.thenS]
  refine wpS_cond (t := true) (by simp [Act.eval, Array.replicate]) ?_
  simp only [if_true]
  refine wpS_of_wp ?_
  go_wp2_with fail
  simp only [List.setIfInBounds_toArray, List.set_cons_zero, List.set_cons_succ] at HA HB HC
  simp only [bodyPostS]
  refine ⟨trivial, _, rfl, .tuple #[], by simp [results, Try.results97], rfl, rfl, HA.out, HB.out, HC.out, HBL.out⟩
set_option maxHeartbeats 1000000 in
theorem catch_none8 (a b c : Addr) (w : World) :
    CallsD Try.prog 97 #[.pointer (some a), .pointer (some b), .pointer (some c)] .returning w fun e u' w' => e = .returned (.tuple #[]) ∧ u' = .returning ∧ w' = w := by
  refine callsD_of_wpS Try.func97 rfl fun c₀ cs hu => ?_
  apply wpS_seq
  apply wpS_region
  simp [wpOpsS, go_sem, recoverD, hu, Try.ntmps97, Exit.thenS, assert_nil8]
  apply wpS_seq
  apply wpS_region
  simp [wpOpsS, go_sem, Exit.thenS]
  refine wpS_cond (t := false) (by simp [Act.eval, Array.replicate]) ?_
  simp only [Bool.false_eq_true, if_false]
  refine wpS_of_wp (wp_skip ?_)
  cases c₀
  simp_all [bodyPostS, results, Try.results97]
end Go.Proofs.Ythggafdfglojaaa
namespace Go.Proofs.Ythggafdfglojaaa
open Go.RowKit
set_option maxRecDepth 100000
def ReadP (w : World) (t : List UInt8) (e : Ending) (w' : World) : Prop :=
  Below w.heap.size w w' ∧ (rd8 t = none → e = .returned (.tuple #[.agg #[.slice none 0 0, .int .i64 0, .int .i64 0], .slice none 0 0, .int .i64 82])) ∧
    ∀ h rs, rd8 t = some (h, rs) → ∃ A c R d ls, e = .returned (.tuple #[.agg #[.slice A h.objs.length c, .int .i64 h.cap, .int .i64 h.last], .slice R rs.length d, .int .i64 0]) ∧ ls.map (·.o) = h.objs ∧ OwnH w' w.heap.size A c ls ∧
      w'.ownsRow w.heap.size 3 1 (.slice R rs.length d) rs.length (rs.map (Value.int .i64))
theorem Only.ownH8 {g : Nat} {w w' : World} {s : List UInt8} {base : Nat} {A : Option Addr} {c : Nat} {ls : List LO} (h : Only g w w') (hr : RL8 w g s) (ho : OwnH w base A c ls) : OwnH w' base A c ls :=
  ⟨h.own ho.row (own_blk_ne ho.row hr (by decide)), fun i l hl => h.own (ho.ints i l hl) (own_blk_ne (ho.ints i l hl) hr (by decide)), ho.apart⟩
theorem OwnH.off8 {w : World} {base g : Nat} {T : TypeId} {A : Option Addr} {c : Nat} {ls : List LO} {cs : Array Value} (h : OwnH w base A c ls) (hB : Lies w g T cs) (h1 : 22 ≠ T ∧ 46 ≠ T) (h2 : 3 ≠ T) (o : Nat) (u : Value) : OwnH (w.setCell ⟨g, o, none⟩ u) base A c ls :=
  ⟨ownsRow_setCell_other h.row (own_blk_ne h.row hB h1.2) _, fun i l hl => ownsRow_setCell_other (h.ints i l hl) (own_blk_ne (h.ints i l hl) hB h2) _, h.apart⟩
theorem leaves_same8 {t1 t2 : Array Value} {fn : Func} {R : Ending → World → Prop} (h : results fn t1 = results fn t2) (ds : List Deferred) (u : FrameMode) (w : World) (hl : Leaves Try.prog fn t1 R ds u w) : Leaves Try.prog fn t2 R ds u w := by
  induction ds generalizing u w with
  | nil =>
    cases u with
    | run => exact hl
    | returning =>
      obtain ⟨v, h1, h2⟩ := hl
      exact ⟨v, by rw [← h]; exact h1, h2⟩
    | panicking c => exact hl
  | cons d ds ih =>
    obtain ⟨h1, fv, cap, f, args, h2, h3, h4⟩ := hl
    refine ⟨h1, fv, cap, f, args, h2, h3, h4.mono ?_⟩
    intro e u' w' h5
    cases e with
    | returned v => exact ih _ _ h5
    | panicked c => exact ih _ _ h5
    | outgrown => exact h5
theorem put_panic8 {R : Ending → World → Prop} {c : List PanicEntry} {a : Act} {w : World} {i : Nat} {v : Value} (h2 : i ≠ 2) (h3 : i ≠ 3) (h4 : i ≠ 4) (h : bodyPostD Try.prog Try.f68 R (.panic c) (a.put (some i) v) w) : bodyPostD Try.prog Try.f68 R (.panic c) a w := by
  refine leaves_same8 ?_ _ _ _ h
  simp [results, Try.results68, Act.put, Array.getElem?_setIfInBounds_ne, h2, h3, h4]
theorem only_below8 {B g : Nat} {w0 w w' : World} (h : Only g w w') (hb : Below B w0 w) (hg : B ≤ g) (hB : B ≤ w.heap.size) : Below B w0 w' :=
  hb.grown h hB (fun k hk => by injection hk with hk; omega)
set_option maxHeartbeats 4000000 in
theorem read_any8 (t : List UInt8) (hl : t.length ≤ 100000) (w : World) : Calls Try.prog 68 #[.string (str t)] w (ReadP w t) := by
  have hmf : ∀ (fn : Fn) (first cap : Array Value) (w : World), (Instr.makeFunc fn first cap).run Try.prog w = .ok (.func fn first cap) w := fun _ _ _ _ => rfl
  obtain ⟨w0, hw0⟩ : ∃ u, u = (((w.alloc (.cells #[.slice none 0 0, .int .i64 0, .int .i64 0] 24)).alloc (.cells #[.slice none 0 0] 44)).alloc (.cells #[.int .i64 0] 29)).alloc (.cells #[.string (str t)] 104) := ⟨_, rfl⟩
  obtain ⟨b, hb⟩ : ∃ b, b = w.heap.size + 1 := ⟨_, rfl⟩
  obtain ⟨c, hc⟩ : ∃ c, c = b + 1 := ⟨_, rfl⟩
  obtain ⟨g, hg⟩ : ∃ g, g = c + 1 := ⟨_, rfl⟩
  have K1 := Lies.new w 24 #[.slice none 0 0, .int .i64 0, .int .i64 0]
  have K2 := Lies.new (w.alloc (.cells #[.slice none 0 0, .int .i64 0, .int .i64 0] 24)) 44 #[.slice none 0 0]
  have K3 := Lies.new ((w.alloc (.cells #[.slice none 0 0, .int .i64 0, .int .i64 0] 24)).alloc (.cells #[.slice none 0 0] 44)) 29 #[.int .i64 0]
  have K4 := Lies.new (((w.alloc (.cells #[.slice none 0 0, .int .i64 0, .int .i64 0] 24)).alloc (.cells #[.slice none 0 0] 44)).alloc (.cells #[.int .i64 0] 29)) 104 #[.string (str t)]
  have B0 := ((below_alloc2 w (.cells #[.slice none 0 0, .int .i64 0, .int .i64 0] 24) (.cells #[.slice none 0 0] 44)).alloc (by simp; omega) (.cells #[.int .i64 0] 29)).alloc (by simp; omega) (.cells #[.string (str t)] 104)
  have K5 := ((K1.alloc (.cells #[.slice none 0 0] 44)).alloc (.cells #[.int .i64 0] 29)).alloc (.cells #[.string (str t)] 104)
  have K6 := (K2.alloc (.cells #[.int .i64 0] 29)).alloc (.cells #[.string (str t)] 104)
  have K7 := K3.alloc (.cells #[.string (str t)] 104)
  rw [← hw0] at K4 K5 K6 K7 B0
  have e2 : (w.alloc (.cells #[.slice none 0 0, .int .i64 0, .int .i64 0] 24)).heap.size = b := by rw [hb]; simp
  have e3 : ((w.alloc (.cells #[.slice none 0 0, .int .i64 0, .int .i64 0] 24)).alloc (.cells #[.slice none 0 0] 44)).heap.size = c := by rw [hc, hb]; simp
  have e4 : (((w.alloc (.cells #[.slice none 0 0, .int .i64 0, .int .i64 0] 24)).alloc (.cells #[.slice none 0 0] 44)).alloc (.cells #[.int .i64 0] 29)).heap.size = g := by rw [hg, hc, hb]; simp
  rw [e2] at K6
  rw [e3] at K7
  rw [e4] at K4
  have HA0 : Hid (Lies w0 w.heap.size 24 #[.slice none 0 0, .int .i64 0, .int .i64 0]) := K5
  have HB0 : Hid (Lies w0 b 44 #[.slice none 0 0]) := K6
  have HC0 : Hid (Lies w0 c 29 #[.int .i64 0]) := K7
  have HR0 : Hid (RL8 w0 g t) := K4
  have HW0 : Hid (Below w.heap.size w w0) := B0
  clear K1 K2 K3 K4 K5 K6 K7 B0 e2 e3 e4
  have nab : w.heap.size ≠ b := by omega
  have nac : w.heap.size ≠ c := by omega
  have nbc : b ≠ c := by omega
  have nag : w.heap.size ≠ g := by omega
  have nbg : b ≠ g := by omega
  have ncg : c ≠ g := by omega
  have HLB : Hid (w.heap.size ≤ b) := by show _ ≤ _; omega
  have HLC : Hid (w.heap.size ≤ c) := by show _ ≤ _; omega
  have HLG : Hid (w.heap.size ≤ g) := by show _ ≤ _; omega
  have e0 : rd8 t = (pk8 3 t).bind fun m => (wd8 m.2).bind fun c => (wd8 c.2).bind fun l => (ct8 256 l.2).bind fun n => (obs8 n.1.toNat n.2).bind fun os => (ls8 64 os.2).bind fun r => some (⟨os.1, c.1, l.1⟩, r.1) := rfl
  have E0 := hid e0
  clear e0
  go_enter_defers Try.func68, Try.ntmps68
  go_upto_region 3 with fail
  rw [← hb, ← hc, ← hg, ← hw0]
  clear hw0 hb hc hg
  go_wp2_with fail
  rcases hp : pk8 3 t with _ | ⟨m0, s1⟩
  · have HP := hid hp
    have HQ0 : Hid (rd8 t = none) := by show _ = _; rw [E0.out, hp]; rfl
    clear hp
    refine (pbytes_any8 t 3 (by omega) g _ HR0.out (by assumption)).mono ?_
    rintro e w9 ⟨h1, h2, -⟩
    obtain rfl := h2 HP.out
    have HQ : Hid (rd8 t = none) := HQ0
    have HX := hid (only_below8 h1 HW0.out HLG.out HW0.out.size)
    have KA := h1.lies HA0.out nag
    have KB := h1.lies HB0.out nbg
    have KC := h1.lies HC0.out ncg
    have HKA := hid KA
    have HKB := hid KB
    have HKC := hid KC
    clear h1 h2 KA KB KC
    go_wp2_with fail
    refine leaves_cons (f := 97) (args := #[.pointer (some ⟨w.heap.size, 0, none⟩), .pointer (some ⟨b, 0, none⟩), .pointer (some ⟨c, 0, none⟩)]) (by simp) (by simp [go_sem]) ?_
    refine (catch_stop8 w.heap.size b c _ _ _ _ _ _ HKA.out HKB.out HKC.out nab nac nbc).mono ?_
    rintro e u' w8 ⟨rfl, hs, ka, kb, kc, hbel⟩
    have r0 := ka.cell 0
    have r1 := ka.cell 1
    have r2 := ka.cell 2
    have r3 := kb.cell 0
    have r4 := kc.cell 0
    simp only [List.getElem?_toArray, List.getElem?_cons_zero, List.getElem?_cons_succ] at r0 r1 r2 r3 r4
    show Leaves _ _ _ _ [] (settle u') w8
    rw [hs]
    refine ⟨.tuple #[.agg #[.slice none 0 0, .int .i64 0, .int .i64 0], .slice none 0 0, .int .i64 82], by simp [results, Try.results68, go_sem, r0, r1, r2, r3, r4], ?_⟩
    exact ⟨HX.out.trans (hbel w.heap.size (Nat.le_refl _) HLB.out HLC.out), fun _ => rfl, fun h rs e => by rw [HQ.out] at e; cases e⟩
  have HP1 := hid hp
  have hlen1 : s1.length ≤ 100000 := Nat.le_trans ((pk8_len hp).2) (by assumption)
  have E1 : Hid (rd8 t = (wd8 s1).bind fun c => (wd8 c.2).bind fun l => (ct8 256 l.2).bind fun n => (obs8 n.1.toNat n.2).bind fun os => (ls8 64 os.2).bind fun r => some (⟨os.1, c.1, l.1⟩, r.1)) := by show _ = _; rw [E0.out, hp]; rfl
  clear hp
  refine (pbytes_any8 t 3 (by omega) g _ HR0.out (by assumption)).mono ?_
  rintro e w1 ⟨h1, -, h2⟩
  obtain ⟨rfl, h3⟩ := h2 m0 s1 HP1.out
  have HA1 := hid (h1.lies HA0.out nag)
  have HB1 := hid (h1.lies HB0.out nbg)
  have HC1 := hid (h1.lies HC0.out ncg)
  have HR1 := hid h3
  have HW1 := hid (only_below8 h1 HW0.out HLG.out HW0.out.size)
  clear h1 h2 h3
  go_wp2_with fail
  rcases hp : wd8 s1 with _ | ⟨cp, s2⟩
  · have HP := hid hp
    have HQ0 : Hid (rd8 t = none) := by show _ = _; rw [E1.out, hp]; rfl
    clear hp
    refine (pword_any8 s1 g _ HR1.out (by assumption)).mono ?_
    rintro e w9 ⟨h1, h2, -⟩
    obtain rfl := h2 HP.out
    have HQ : Hid (rd8 t = none) := HQ0
    have HX := hid (only_below8 h1 HW1.out HLG.out HW1.out.size)
    have KA := h1.lies HA1.out nag
    have KB := h1.lies HB1.out nbg
    have KC := h1.lies HC1.out ncg
    have HKA := hid KA
    have HKB := hid KB
    have HKC := hid KC
    clear h1 h2 KA KB KC
    go_wp2_with fail
    refine leaves_cons (f := 97) (args := #[.pointer (some ⟨w.heap.size, 0, none⟩), .pointer (some ⟨b, 0, none⟩), .pointer (some ⟨c, 0, none⟩)]) (by simp) (by simp [go_sem]) ?_
    refine (catch_stop8 w.heap.size b c _ _ _ _ _ _ HKA.out HKB.out HKC.out nab nac nbc).mono ?_
    rintro e u' w8 ⟨rfl, hs, ka, kb, kc, hbel⟩
    have r0 := ka.cell 0
    have r1 := ka.cell 1
    have r2 := ka.cell 2
    have r3 := kb.cell 0
    have r4 := kc.cell 0
    simp only [List.getElem?_toArray, List.getElem?_cons_zero, List.getElem?_cons_succ] at r0 r1 r2 r3 r4
    show Leaves _ _ _ _ [] (settle u') w8
    rw [hs]
    refine ⟨.tuple #[.agg #[.slice none 0 0, .int .i64 0, .int .i64 0], .slice none 0 0, .int .i64 82], by simp [results, Try.results68, go_sem, r0, r1, r2, r3, r4], ?_⟩
    exact ⟨HX.out.trans (hbel w.heap.size (Nat.le_refl _) HLB.out HLC.out), fun _ => rfl, fun h rs e => by rw [HQ.out] at e; cases e⟩
  have HP2 := hid hp
  have hlen2 : s2.length ≤ 100000 := Nat.le_trans (wd8_len hp) (by assumption)
  have E2 : Hid (rd8 t = (wd8 s2).bind fun l => (ct8 256 l.2).bind fun n => (obs8 n.1.toNat n.2).bind fun os => (ls8 64 os.2).bind fun r => some (⟨os.1, cp, l.1⟩, r.1)) := by show _ = _; rw [E1.out, hp]; rfl
  clear hp
  refine (pword_any8 s1 g _ HR1.out (by assumption)).mono ?_
  rintro e w2 ⟨h1, -, h2⟩
  obtain ⟨rfl, h3⟩ := h2 cp s2 HP2.out
  have HA2 := hid (h1.lies HA1.out nag)
  have HB2 := hid (h1.lies HB1.out nbg)
  have HC2 := hid (h1.lies HC1.out ncg)
  have HR2 := hid h3
  have HW2 := hid (only_below8 h1 HW1.out HLG.out HW1.out.size)
  clear h1 h2 h3
  have l1 := HA2.out.cell 1
  have lf1 := HA2.out.frozen 1
  simp only [List.getElem?_toArray, List.getElem?_cons_zero, List.getElem?_cons_succ] at l1
  have HA3 := hid (HA2.out.set_ 1 (.int .i64 cp))
  have HB3 := hid (HB2.out.far (p := ⟨w.heap.size, 1, none⟩) nab.symm (.int .i64 cp))
  have HC3 := hid (HC2.out.far (p := ⟨w.heap.size, 1, none⟩) nac.symm (.int .i64 cp))
  have HR3 := hid (HR2.out.far (p := ⟨w.heap.size, 1, none⟩) nag.symm (.int .i64 cp))
  have HW3 := hid (HW2.out.setCell (p := ⟨w.heap.size, 1, none⟩) (Nat.le_refl _) (.int .i64 cp))
  simp only [List.setIfInBounds_toArray, List.set_cons_zero, List.set_cons_succ] at HA3
  go_wp2_with fail
  rcases hp : wd8 s2 with _ | ⟨la, s3⟩
  · have HP := hid hp
    have HQ0 : Hid (rd8 t = none) := by show _ = _; rw [E2.out, hp]; rfl
    clear hp
    refine (pword_any8 s2 g _ HR3.out (by assumption)).mono ?_
    rintro e w9 ⟨h1, h2, -⟩
    obtain rfl := h2 HP.out
    have HQ : Hid (rd8 t = none) := HQ0
    have HX := hid (only_below8 h1 HW3.out HLG.out HW3.out.size)
    have KA := h1.lies HA3.out nag
    have KB := h1.lies HB3.out nbg
    have KC := h1.lies HC3.out ncg
    have HKA := hid KA
    have HKB := hid KB
    have HKC := hid KC
    clear h1 h2 KA KB KC
    go_wp2_with fail
    refine leaves_cons (f := 97) (args := #[.pointer (some ⟨w.heap.size, 0, none⟩), .pointer (some ⟨b, 0, none⟩), .pointer (some ⟨c, 0, none⟩)]) (by simp) (by simp [go_sem]) ?_
    refine (catch_stop8 w.heap.size b c _ _ _ _ _ _ HKA.out HKB.out HKC.out nab nac nbc).mono ?_
    rintro e u' w8 ⟨rfl, hs, ka, kb, kc, hbel⟩
    have r0 := ka.cell 0
    have r1 := ka.cell 1
    have r2 := ka.cell 2
    have r3 := kb.cell 0
    have r4 := kc.cell 0
    simp only [List.getElem?_toArray, List.getElem?_cons_zero, List.getElem?_cons_succ] at r0 r1 r2 r3 r4
    show Leaves _ _ _ _ [] (settle u') w8
    rw [hs]
    refine ⟨.tuple #[.agg #[.slice none 0 0, .int .i64 0, .int .i64 0], .slice none 0 0, .int .i64 82], by simp [results, Try.results68, go_sem, r0, r1, r2, r3, r4], ?_⟩
    exact ⟨HX.out.trans (hbel w.heap.size (Nat.le_refl _) HLB.out HLC.out), fun _ => rfl, fun h rs e => by rw [HQ.out] at e; cases e⟩
  have HP4 := hid hp
  have hlen4 : s3.length ≤ 100000 := Nat.le_trans (wd8_len hp) (by assumption)
  have E4 : Hid (rd8 t = (ct8 256 s3).bind fun n => (obs8 n.1.toNat n.2).bind fun os => (ls8 64 os.2).bind fun r => some (⟨os.1, cp, la⟩, r.1)) := by show _ = _; rw [E2.out, hp]; rfl
  clear hp
  refine (pword_any8 s2 g _ HR3.out (by assumption)).mono ?_
  rintro e w4 ⟨h1, -, h2⟩
  obtain ⟨rfl, h3⟩ := h2 la s3 HP4.out
  have HA4 := hid (h1.lies HA3.out nag)
  have HB4 := hid (h1.lies HB3.out nbg)
  have HC4 := hid (h1.lies HC3.out ncg)
  have HR4 := hid h3
  have HW4 := hid (only_below8 h1 HW3.out HLG.out HW3.out.size)
  clear h1 h2 h3
  have l2 := HA4.out.cell 2
  have lf2 := HA4.out.frozen 2
  simp only [List.getElem?_toArray, List.getElem?_cons_zero, List.getElem?_cons_succ] at l2
  have HA5 := hid (HA4.out.set_ 2 (.int .i64 la))
  have HB5 := hid (HB4.out.far (p := ⟨w.heap.size, 2, none⟩) nab.symm (.int .i64 la))
  have HC5 := hid (HC4.out.far (p := ⟨w.heap.size, 2, none⟩) nac.symm (.int .i64 la))
  have HR5 := hid (HR4.out.far (p := ⟨w.heap.size, 2, none⟩) nag.symm (.int .i64 la))
  have HW5 := hid (HW4.out.setCell (p := ⟨w.heap.size, 2, none⟩) (Nat.le_refl _) (.int .i64 la))
  simp only [List.setIfInBounds_toArray, List.set_cons_zero, List.set_cons_succ] at HA5
  go_wp2_with fail
  rcases hp : ct8 256 s3 with _ | ⟨n, s4⟩
  · have HP := hid hp
    have HQ0 : Hid (rd8 t = none) := by show _ = _; rw [E4.out, hp]; rfl
    clear hp
    refine (pcount_any8 s3 256 (by omega) (by omega) g _ HR5.out (by assumption)).mono ?_
    rintro e w9 ⟨h1, h2, -⟩
    obtain rfl := h2 HP.out
    have HQ : Hid (rd8 t = none) := HQ0
    have HX := hid (only_below8 h1 HW5.out HLG.out HW5.out.size)
    have KA := h1.lies HA5.out nag
    have KB := h1.lies HB5.out nbg
    have KC := h1.lies HC5.out ncg
    have HKA := hid KA
    have HKB := hid KB
    have HKC := hid KC
    clear h1 h2 KA KB KC
    go_wp2_with fail
    refine leaves_cons (f := 97) (args := #[.pointer (some ⟨w.heap.size, 0, none⟩), .pointer (some ⟨b, 0, none⟩), .pointer (some ⟨c, 0, none⟩)]) (by simp) (by simp [go_sem]) ?_
    refine (catch_stop8 w.heap.size b c _ _ _ _ _ _ HKA.out HKB.out HKC.out nab nac nbc).mono ?_
    rintro e u' w8 ⟨rfl, hs, ka, kb, kc, hbel⟩
    have r0 := ka.cell 0
    have r1 := ka.cell 1
    have r2 := ka.cell 2
    have r3 := kb.cell 0
    have r4 := kc.cell 0
    simp only [List.getElem?_toArray, List.getElem?_cons_zero, List.getElem?_cons_succ] at r0 r1 r2 r3 r4
    show Leaves _ _ _ _ [] (settle u') w8
    rw [hs]
    refine ⟨.tuple #[.agg #[.slice none 0 0, .int .i64 0, .int .i64 0], .slice none 0 0, .int .i64 82], by simp [results, Try.results68, go_sem, r0, r1, r2, r3, r4], ?_⟩
    exact ⟨HX.out.trans (hbel w.heap.size (Nat.le_refl _) HLB.out HLC.out), fun _ => rfl, fun h rs e => by rw [HQ.out] at e; cases e⟩
  have HP6 := hid hp
  have hlen6 : s4.length ≤ 100000 := Nat.le_trans ((ct8_len hp).1) (by assumption)
  have E6 : Hid (rd8 t = (obs8 n.toNat s4).bind fun os => (ls8 64 os.2).bind fun r => some (⟨os.1, cp, la⟩, r.1)) := by show _ = _; rw [E4.out, hp]; rfl
  clear hp
  refine (pcount_any8 s3 256 (by omega) (by omega) g _ HR5.out (by assumption)).mono ?_
  rintro e w6 ⟨h1, -, h2⟩
  obtain ⟨rfl, h3⟩ := h2 n s4 HP6.out
  have HA6 := hid (h1.lies HA5.out nag)
  have HB6 := hid (h1.lies HB5.out nbg)
  have HC6 := hid (h1.lies HC5.out ncg)
  have HR6 := hid h3
  have HW6 := hid (only_below8 h1 HW5.out HLG.out HW5.out.size)
  clear h1 h2 h3
  clear l1 lf1 l2 lf2
  obtain ⟨-, hn0, hn1⟩ := ct8_len HP6.out
  simp only at hn0 hn1
  obtain ⟨m, rfl⟩ : ∃ m : Nat, n = m := ⟨n.toNat, by omega⟩
  rw [Int.toNat_natCast] at E6
  go_wp2_with fail
  go_loopw [15] (fun i wr => ∃ (k : Nat) (os : List Ob) (s : List UInt8) (A : Option Addr) (d : Nat) (ls : List LO), k ≤ m ∧ i = .int .i64 k ∧ obs8 k s4 = some (os, s) ∧ Hid (ls.map (·.o) = os) ∧ OwnH wr w.heap.size A d ls ∧ Lies wr w.heap.size 24 #[.slice A ls.length d, .int .i64 cp, .int .i64 la] ∧ Lies wr b 44 #[.slice none 0 0] ∧ Lies wr c 29 #[.int .i64 0] ∧ RL8 wr g s ∧ Below w.heap.size w wr) (fun i _ => m - (intOf i).toNat)
  case atStart => exact ⟨0, [], s4, none, 0, [], Nat.zero_le _, rfl, rfl, hid rfl, OwnH.nil _ _, HA6.out, HB6.out, HC6.out, HR6.out, HW6.out⟩
  case round =>
    obtain ⟨k, os, s, A, d, ls, hk, rfl, hv, HLS, ho, ha, hb, hc, hr, hw⟩ := hrel
    obtain ⟨hvl, htl⟩ := many8_len (fun s p => ob8_len) hv
    simp only at hvl htl
    have hll : ls.length = k := by rw [← hvl, ← HLS.out, List.length_map]
    have hll9 : ls.length ≤ 9000 := by omega
    have HLL := hid hll
    have HV := hid hv
    have HO := hid ho
    have HA := hid ha
    have HB := hid hb
    have HC := hid hc
    have HR := hid hr
    have HW := hid hw
    have hlk : s.length ≤ 100000 := by omega
    clear hv ho ha hb hc hr hw hll
    by_cases hlt : k < m
    · have hltI : (k : Int) < (m : Int) := by omega
      have x0 := HA.out.cell 0
      simp only [List.getElem?_toArray, List.getElem?_cons_zero] at x0
      rcases hp : ob8 s with _ | ⟨o, s'⟩
      · have HP := hid hp
        have HQ0 : Hid (rd8 t = none) := by show _ = _; rw [E6.out]; show (many8 ob8 m s4).bind _ = _; rw [many8_stop HV.out hlt hp]; rfl
        clear hp
        go_upto_region 8 with fail
        refine wp_region_held_drew (S := (fun _ => True)) (by kernel_rfl) ?_ (fun hH0 => ?_)
        · exact trivial
        refine wpAnyH_take (i := 0) (oi := { dst := some 17, op := Go.Op.fieldAddr 24 (Go.Operand.tmp 2) 0, type := 0, pos := "snap.go:123", after := #[], guard := none }) (v := ?vv1) rfl (by kernel_rfl) (by kernel_rfl) (by kernel_rfl) (fun _ _ _ h => put_panic8 (i := 17) (by decide) (by decide) (by decide) h) (Or.inl ⟨by rfl, ?hy1⟩) (by assumption) ?rr1
        case hy1 => intro w hSw; (try dsimp only at hSw); go_simp; all_goals with_reducible rfl
        try simp only [Act.put, List.setIfInBounds_toArray, List.set_cons_zero, List.set_cons_succ]
        refine wpAnyH_ready (rs := [1, 2]) (by kernel_rfl) (by simp) ?_
        refine AllReadyH.cons (i := 1) (o := { dst := some 18, op := Go.Op.load 22 (Go.Operand.tmp 17), type := 22, pos := "snap.go:123", after := #[{ on := 0, ground := Go.Ground.data }], guard := none }) rfl (fun K hK => ?_) (AllReadyH.cons (i := 2) (o := { dst := some 19, op := Go.Op.call { callee := Go.Callee.value (Go.Operand.func 101), args := #[Go.Operand.tmp 5], argTypes := #[104] }, type := 46, pos := "snap.go:123", after := #[], guard := none }) rfl (fun K hK => ?_) AllReadyH.nil)
        · go_simp
          refine hK.out _ _ ?_ (fun hH1 => ?_)
          · exact trivial
          clear hK K
          try simp only [Act.put, List.setIfInBounds_toArray, List.set_cons_zero, List.set_cons_succ]
          refine wpAnyH_ready (rs := [2]) (by kernel_rfl) (by simp) ?_
          refine AllReadyH.cons (i := 2) (o := { dst := some 19, op := Go.Op.call { callee := Go.Callee.value (Go.Operand.func 101), args := #[Go.Operand.tmp 5], argTypes := #[104] }, type := 46, pos := "snap.go:123", after := #[], guard := none }) rfl (fun K hK => ?_) AllReadyH.nil
          go_simp
          go_at_call 101
          refine (pobject_any8 s g _ (HR.out.later (Below.refl _ wr).drew) hlk).mono ?_
          rintro e w9 ⟨h1, h2, -⟩
          have h1 := (only_below (g := g) (Below.refl _ wr).drew).then_ h1
          obtain rfl := h2 HP.out
          have HQ : Hid (rd8 t = none) := HQ0
          have HX := hid (only_below8 h1 HW.out HLG.out HW.out.size)
          have KA := h1.lies HA.out nag
          have KB := h1.lies HB.out nbg
          have KC := h1.lies HC.out ncg
          have HKA := hid KA
          have HKB := hid KB
          have HKC := hid KC
          clear h1 h2 KA KB KC
          go_wp2_with fail
          refine leaves_cons (f := 97) (args := #[.pointer (some ⟨w.heap.size, 0, none⟩), .pointer (some ⟨b, 0, none⟩), .pointer (some ⟨c, 0, none⟩)]) (by simp) (by simp [go_sem]) ?_
          refine (catch_stop8 w.heap.size b c _ _ _ _ _ _ HKA.out HKB.out HKC.out nab nac nbc).mono ?_
          rintro e u' w8 ⟨rfl, hs, ka, kb, kc, hbel⟩
          have r0 := ka.cell 0
          have r1 := ka.cell 1
          have r2 := ka.cell 2
          have r3 := kb.cell 0
          have r4 := kc.cell 0
          simp only [List.getElem?_toArray, List.getElem?_cons_zero, List.getElem?_cons_succ] at r0 r1 r2 r3 r4
          show Leaves _ _ _ _ [] (settle u') w8
          rw [hs]
          refine ⟨.tuple #[.agg #[.slice none 0 0, .int .i64 0, .int .i64 0], .slice none 0 0, .int .i64 82], by simp [results, Try.results68, go_sem, r0, r1, r2, r3, r4], ?_⟩
          exact ⟨HX.out.trans (hbel w.heap.size (Nat.le_refl _) HLB.out HLC.out), fun _ => rfl, fun h rs e => by rw [HQ.out] at e; cases e⟩
        · go_simp
          go_at_call 101
          refine (pobject_any8 s g _ (HR.out.later (Below.refl _ wr).drew) hlk).mono ?_
          rintro e w9 ⟨h1, h2, -⟩
          have h1 := (only_below (g := g) (Below.refl _ wr).drew).then_ h1
          obtain rfl := h2 HP.out
          have HQ : Hid (rd8 t = none) := HQ0
          have HX := hid (only_below8 h1 HW.out HLG.out HW.out.size)
          have KA := h1.lies HA.out nag
          have KB := h1.lies HB.out nbg
          have KC := h1.lies HC.out ncg
          have HKA := hid KA
          have HKB := hid KB
          have HKC := hid KC
          clear h1 h2 KA KB KC
          go_wp2_with fail
          refine leaves_cons (f := 97) (args := #[.pointer (some ⟨w.heap.size, 0, none⟩), .pointer (some ⟨b, 0, none⟩), .pointer (some ⟨c, 0, none⟩)]) (by simp) (by simp [go_sem]) ?_
          refine (catch_stop8 w.heap.size b c _ _ _ _ _ _ HKA.out HKB.out HKC.out nab nac nbc).mono ?_
          rintro e u' w8 ⟨rfl, hs, ka, kb, kc, hbel⟩
          have r0 := ka.cell 0
          have r1 := ka.cell 1
          have r2 := ka.cell 2
          have r3 := kb.cell 0
          have r4 := kc.cell 0
          simp only [List.getElem?_toArray, List.getElem?_cons_zero, List.getElem?_cons_succ] at r0 r1 r2 r3 r4
          show Leaves _ _ _ _ [] (settle u') w8
          rw [hs]
          refine ⟨.tuple #[.agg #[.slice none 0 0, .int .i64 0, .int .i64 0], .slice none 0 0, .int .i64 82], by simp [results, Try.results68, go_sem, r0, r1, r2, r3, r4], ?_⟩
          exact ⟨HX.out.trans (hbel w.heap.size (Nat.le_refl _) HLB.out HLC.out), fun _ => rfl, fun h rs e => by rw [HQ.out] at e; cases e⟩
      · have HP := hid hp
        have HN := hid (many8_step HV.out hp)
        clear hp
        go_upto_region 8 with fail
        refine wp_region_held_drew (S := (fun _ => True)) (by kernel_rfl) ?_ (fun hH0 => ?_)
        · exact trivial
        refine wpAnyH_take (i := 0) (oi := { dst := some 17, op := Go.Op.fieldAddr 24 (Go.Operand.tmp 2) 0, type := 0, pos := "snap.go:123", after := #[], guard := none }) (v := ?vv2) rfl (by kernel_rfl) (by kernel_rfl) (by kernel_rfl) (fun _ _ _ h => put_panic8 (i := 17) (by decide) (by decide) (by decide) h) (Or.inl ⟨by rfl, ?hy2⟩) (by assumption) ?rr2
        case hy2 => intro w hSw; (try dsimp only at hSw); go_simp; all_goals with_reducible rfl
        try simp only [Act.put, List.setIfInBounds_toArray, List.set_cons_zero, List.set_cons_succ]
        refine wpAnyH_ready (rs := [1, 2]) (by kernel_rfl) (by simp) ?_
        refine AllReadyH.cons (i := 1) (o := { dst := some 18, op := Go.Op.load 22 (Go.Operand.tmp 17), type := 22, pos := "snap.go:123", after := #[{ on := 0, ground := Go.Ground.data }], guard := none }) rfl (fun K hK => ?_) (AllReadyH.cons (i := 2) (o := { dst := some 19, op := Go.Op.call { callee := Go.Callee.value (Go.Operand.func 101), args := #[Go.Operand.tmp 5], argTypes := #[104] }, type := 46, pos := "snap.go:123", after := #[], guard := none }) rfl (fun K hK => ?_) AllReadyH.nil)
        · go_simp
          refine hK.out _ _ ?_ (fun hH1 => ?_)
          · exact trivial
          clear hK K
          try simp only [Act.put, List.setIfInBounds_toArray, List.set_cons_zero, List.set_cons_succ]
          refine wpAnyH_ready (rs := [2]) (by kernel_rfl) (by simp) ?_
          refine AllReadyH.cons (i := 2) (o := { dst := some 19, op := Go.Op.call { callee := Go.Callee.value (Go.Operand.func 101), args := #[Go.Operand.tmp 5], argTypes := #[104] }, type := 46, pos := "snap.go:123", after := #[], guard := none }) rfl (fun K hK => ?_) AllReadyH.nil
          go_simp
          go_at_call 101
          refine (pobject_any8 s g _ (HR.out.later (Below.refl _ wr).drew) hlk).mono ?_
          rintro e v1 ⟨h2, -, h3⟩
          obtain ⟨⟨S, d1, rfl, hown⟩, h1⟩ := h3 o s' HP.out
          have hY : Only g wr v1 := (only_below (Below.refl _ wr).drew).then_ h2
          have hO1 := hY.ownH8 HR.out HO.out
          have hz1 := hY.size
          obtain ⟨A2, c2, v2, hrun, hO2, hg2⟩ := run_app_obj v1 w.heap.size wr.heap.size A d ls hO1 (by omega) o S d1 hown HW.out.size (fun i li a hi ha => HO.out.blk_lt hi ha) (Nat.le_trans HW.out.size hz1)
          have hA1 := hY.lies HA.out nag
          have hB1 := hY.lies HB.out nbg
          have hC1 := hY.lies HC.out ncg
          have hW1 := only_below8 hY HW.out HLG.out HW.out.size
          have hal := below_alloc v1 (.cells (obC o S d1) 46)
          have gw := hA1.cell 0
          simp only [List.getElem?_toArray, List.getElem?_cons_zero] at gw
          have gx := cell_old (ob := .cells (obC o S d1) 46) gw
          unfold obC at gx
          have hA2 := lies_grown hg2 (hA1.later hal) (own_blk_ne (own_later hO1.row hal) (hA1.later hal) (by decide))
          have hB2 := lies_grown hg2 (hB1.later hal) (own_blk_ne (own_later hO1.row hal) (hB1.later hal) (by decide))
          have hC2 := lies_grown hg2 (hC1.later hal) (own_blk_ne (own_later hO1.row hal) (hC1.later hal) (by decide))
          have hR2 : RL8 v2 g s' := lies_grown hg2 (Lies.later h1 hal) (own_blk_ne (own_later hO1.row hal) (Lies.later h1 hal) (by decide))
          have hW2 := (hW1.trans (hal.mono (Nat.le_trans HW.out.size hz1))).grown hg2 (by simp; exact Nat.le_succ_of_le (Nat.le_trans HW.out.size hz1)) (fun q hq => (hO1.row.lt q hq).1)
          have p0 := hA2.cell 0
          have pf0 := hA2.frozen 0
          simp only [List.getElem?_toArray, List.getElem?_cons_zero] at p0
          have HRUN := hid hrun
          have HO2 := hid hO2
          have HA2 := hid hA2
          have HB2 := hid hB2
          have HC2 := hid hC2
          have HR2 := hid hR2
          have HW2 := hid hW2
          clear hown hY hO1 hrun hO2 hg2 hA1 hB1 hC1 hW1 hal hA2 hB2 hC2 hR2 hW2 h1 h2 h3 hz1
          refine hK.out _ _ ?_ (fun hH2 => ?_)
          · exact trivial
          clear hK K
          try simp only [Act.put, List.setIfInBounds_toArray, List.set_cons_zero, List.set_cons_succ]
          refine wpAnyH_ready (rs := [3]) (by kernel_rfl) (by simp) ?_
          refine AllReadyH.cons (i := 3) (o := { dst := some 20, op := Go.Op.buildSlice 22 1 #[(0, Go.Operand.tmp 19)], type := 22, pos := "snap.go:123", after := #[{ on := 2, ground := Go.Ground.data }], guard := none }) rfl (fun K hK => ?_) AllReadyH.nil
          go_simp
          refine hK.out _ _ ?_ (fun hH3 => ?_)
          · exact trivial
          clear hK K
          try simp only [Act.put, List.setIfInBounds_toArray, List.set_cons_zero, List.set_cons_succ]
          refine wpAnyH_ready (rs := [4]) (by kernel_rfl) (by simp) ?_
          refine AllReadyH.cons (i := 4) (o := { dst := some 21, op := Go.Op.call { callee := Go.Callee.builtin Go.Builtin.append, args := #[Go.Operand.tmp 18, Go.Operand.tmp 20], argTypes := #[22, 22] }, type := 22, pos := "snap.go:123", after := #[{ on := 1, ground := Go.Ground.data }, { on := 3, ground := Go.Ground.data }, { on := 2, ground := Go.Ground.chain }], guard := none }) rfl (fun K hK => ?_) AllReadyH.nil
          rw [if_pos (by rfl)]
          refine wp_app_run (.tmp 18) (.tmp 20) 22 rfl _ _ HRUN.out ?_
          refine hK.out _ _ ?_ (fun hH4 => ?_)
          · exact trivial
          clear hK K
          try simp only [Act.put, List.setIfInBounds_toArray, List.set_cons_zero, List.set_cons_succ]
          refine wpAnyH_take (i := 5) (oi := { dst := some 22, op := Go.Op.fieldAddr 24 (Go.Operand.tmp 2) 0, type := 0, pos := "snap.go:123", after := #[{ on := 0, ground := Go.Ground.phase }, { on := 1, ground := Go.Ground.phase }, { on := 2, ground := Go.Ground.phase }, { on := 3, ground := Go.Ground.phase }, { on := 4, ground := Go.Ground.phase }], guard := none }) (v := ?vv3) rfl (by kernel_rfl) (by kernel_rfl) (by kernel_rfl) (fun _ _ _ h => put_panic8 (i := 22) (by decide) (by decide) (by decide) h) (Or.inl ⟨by rfl, ?hy3⟩) (by assumption) ?rr3
          case hy3 => intro w hSw; (try dsimp only at hSw); go_simp; all_goals with_reducible rfl
          try simp only [Act.put, List.setIfInBounds_toArray, List.set_cons_zero, List.set_cons_succ]
          refine wpAnyH_ready (rs := [6]) (by kernel_rfl) (by simp) ?_
          refine AllReadyH.cons (i := 6) (o := { dst := none, op := Go.Op.store 22 (Go.Operand.tmp 22) (Go.Operand.tmp 21), type := 0, pos := "snap.go:123", after := #[{ on := 5, ground := Go.Ground.data }, { on := 4, ground := Go.Ground.data }, { on := 4, ground := Go.Ground.chain }, { on := 0, ground := Go.Ground.phase }, { on := 1, ground := Go.Ground.phase }, { on := 2, ground := Go.Ground.phase }, { on := 3, ground := Go.Ground.phase }, { on := 4, ground := Go.Ground.phase }], guard := none }) rfl (fun K hK => ?_) AllReadyH.nil
          go_simp
          refine hK.out _ _ ?_ (fun hH5 => ?_)
          · exact trivial
          clear hK K
          try simp only [Act.put, List.setIfInBounds_toArray, List.set_cons_zero, List.set_cons_succ]
          refine wpAnyH_done (by kernel_rfl) ?_ _
          go_wp2_with fail
          go_roundw
          case rel =>
            have hA9 := HA2.out.set_ 0 (.slice A2 (ls.length + 1) c2)
            simp only [List.setIfInBounds_toArray, List.set_cons_zero] at hA9
            refine ⟨k + 1, os ++ [o], s', A2, c2, ls ++ [⟨o, S, d1⟩], by omega, by go_num, HN.out, hid (by rw [List.map_append, HLS.out]; rfl), HO2.out.off HA2.out 0 _, ?_, HB2.out.far (p := ⟨w.heap.size, 0, none⟩) nab.symm _, HC2.out.far (p := ⟨w.heap.size, 0, none⟩) nac.symm _, HR2.out.far (p := ⟨w.heap.size, 0, none⟩) nag.symm _, HW2.out.setCell (p := ⟨w.heap.size, 0, none⟩) (Nat.le_refl _) _⟩
            rw [List.length_append]
            simpa using hA9
          case measure => simp only [intOf]; omega
        · go_simp
          go_at_call 101
          refine (pobject_any8 s g _ (HR.out.later (Below.refl _ wr).drew) hlk).mono ?_
          rintro e v1 ⟨h2, -, h3⟩
          obtain ⟨⟨S, d1, rfl, hown⟩, h1⟩ := h3 o s' HP.out
          have hY : Only g wr v1 := (only_below (Below.refl _ wr).drew).then_ h2
          have hO1 := hY.ownH8 HR.out HO.out
          have hz1 := hY.size
          obtain ⟨A2, c2, v2, hrun, hO2, hg2⟩ := run_app_obj v1 w.heap.size wr.heap.size A d ls hO1 (by omega) o S d1 hown HW.out.size (fun i li a hi ha => HO.out.blk_lt hi ha) (Nat.le_trans HW.out.size hz1)
          have hA1 := hY.lies HA.out nag
          have hB1 := hY.lies HB.out nbg
          have hC1 := hY.lies HC.out ncg
          have hW1 := only_below8 hY HW.out HLG.out HW.out.size
          have hal := below_alloc v1 (.cells (obC o S d1) 46)
          have gw := hA1.cell 0
          simp only [List.getElem?_toArray, List.getElem?_cons_zero] at gw
          have gx := cell_old (ob := .cells (obC o S d1) 46) gw
          unfold obC at gx
          have hA2 := lies_grown hg2 (hA1.later hal) (own_blk_ne (own_later hO1.row hal) (hA1.later hal) (by decide))
          have hB2 := lies_grown hg2 (hB1.later hal) (own_blk_ne (own_later hO1.row hal) (hB1.later hal) (by decide))
          have hC2 := lies_grown hg2 (hC1.later hal) (own_blk_ne (own_later hO1.row hal) (hC1.later hal) (by decide))
          have hR2 : RL8 v2 g s' := lies_grown hg2 (Lies.later h1 hal) (own_blk_ne (own_later hO1.row hal) (Lies.later h1 hal) (by decide))
          have hW2 := (hW1.trans (hal.mono (Nat.le_trans HW.out.size hz1))).grown hg2 (by simp; exact Nat.le_succ_of_le (Nat.le_trans HW.out.size hz1)) (fun q hq => (hO1.row.lt q hq).1)
          have p0 := hA2.cell 0
          have pf0 := hA2.frozen 0
          simp only [List.getElem?_toArray, List.getElem?_cons_zero] at p0
          have HRUN := hid hrun
          have HO2 := hid hO2
          have HA2 := hid hA2
          have HB2 := hid hB2
          have HC2 := hid hC2
          have HR2 := hid hR2
          have HW2 := hid hW2
          clear hown hY hO1 hrun hO2 hg2 hA1 hB1 hC1 hW1 hal hA2 hB2 hC2 hR2 hW2 h1 h2 h3 hz1
          refine hK.out _ _ ?_ (fun hH1 => ?_)
          · exact trivial
          clear hK K
          try simp only [Act.put, List.setIfInBounds_toArray, List.set_cons_zero, List.set_cons_succ]
          refine wpAnyH_ready (rs := [1, 3]) (by kernel_rfl) (by simp) ?_
          refine AllReadyH.cons (i := 1) (o := { dst := some 18, op := Go.Op.load 22 (Go.Operand.tmp 17), type := 22, pos := "snap.go:123", after := #[{ on := 0, ground := Go.Ground.data }], guard := none }) rfl (fun K hK => ?_) (AllReadyH.cons (i := 3) (o := { dst := some 20, op := Go.Op.buildSlice 22 1 #[(0, Go.Operand.tmp 19)], type := 22, pos := "snap.go:123", after := #[{ on := 2, ground := Go.Ground.data }], guard := none }) rfl (fun K hK => ?_) AllReadyH.nil)
          · go_simp
            refine hK.out _ _ ?_ (fun hH2 => ?_)
            · exact trivial
            clear hK K
            try simp only [Act.put, List.setIfInBounds_toArray, List.set_cons_zero, List.set_cons_succ]
            refine wpAnyH_ready (rs := [3]) (by kernel_rfl) (by simp) ?_
            refine AllReadyH.cons (i := 3) (o := { dst := some 20, op := Go.Op.buildSlice 22 1 #[(0, Go.Operand.tmp 19)], type := 22, pos := "snap.go:123", after := #[{ on := 2, ground := Go.Ground.data }], guard := none }) rfl (fun K hK => ?_) AllReadyH.nil
            go_simp
            refine hK.out _ _ ?_ (fun hH3 => ?_)
            · exact trivial
            clear hK K
            try simp only [Act.put, List.setIfInBounds_toArray, List.set_cons_zero, List.set_cons_succ]
            refine wpAnyH_ready (rs := [4]) (by kernel_rfl) (by simp) ?_
            refine AllReadyH.cons (i := 4) (o := { dst := some 21, op := Go.Op.call { callee := Go.Callee.builtin Go.Builtin.append, args := #[Go.Operand.tmp 18, Go.Operand.tmp 20], argTypes := #[22, 22] }, type := 22, pos := "snap.go:123", after := #[{ on := 1, ground := Go.Ground.data }, { on := 3, ground := Go.Ground.data }, { on := 2, ground := Go.Ground.chain }], guard := none }) rfl (fun K hK => ?_) AllReadyH.nil
            rw [if_pos (by rfl)]
            refine wp_app_run (.tmp 18) (.tmp 20) 22 rfl _ _ HRUN.out ?_
            refine hK.out _ _ ?_ (fun hH4 => ?_)
            · exact trivial
            clear hK K
            try simp only [Act.put, List.setIfInBounds_toArray, List.set_cons_zero, List.set_cons_succ]
            refine wpAnyH_take (i := 5) (oi := { dst := some 22, op := Go.Op.fieldAddr 24 (Go.Operand.tmp 2) 0, type := 0, pos := "snap.go:123", after := #[{ on := 0, ground := Go.Ground.phase }, { on := 1, ground := Go.Ground.phase }, { on := 2, ground := Go.Ground.phase }, { on := 3, ground := Go.Ground.phase }, { on := 4, ground := Go.Ground.phase }], guard := none }) (v := ?vv4) rfl (by kernel_rfl) (by kernel_rfl) (by kernel_rfl) (fun _ _ _ h => put_panic8 (i := 22) (by decide) (by decide) (by decide) h) (Or.inl ⟨by rfl, ?hy4⟩) (by assumption) ?rr4
            case hy4 => intro w hSw; (try dsimp only at hSw); go_simp; all_goals with_reducible rfl
            try simp only [Act.put, List.setIfInBounds_toArray, List.set_cons_zero, List.set_cons_succ]
            refine wpAnyH_ready (rs := [6]) (by kernel_rfl) (by simp) ?_
            refine AllReadyH.cons (i := 6) (o := { dst := none, op := Go.Op.store 22 (Go.Operand.tmp 22) (Go.Operand.tmp 21), type := 0, pos := "snap.go:123", after := #[{ on := 5, ground := Go.Ground.data }, { on := 4, ground := Go.Ground.data }, { on := 4, ground := Go.Ground.chain }, { on := 0, ground := Go.Ground.phase }, { on := 1, ground := Go.Ground.phase }, { on := 2, ground := Go.Ground.phase }, { on := 3, ground := Go.Ground.phase }, { on := 4, ground := Go.Ground.phase }], guard := none }) rfl (fun K hK => ?_) AllReadyH.nil
            go_simp
            refine hK.out _ _ ?_ (fun hH5 => ?_)
            · exact trivial
            clear hK K
            try simp only [Act.put, List.setIfInBounds_toArray, List.set_cons_zero, List.set_cons_succ]
            refine wpAnyH_done (by kernel_rfl) ?_ _
            go_wp2_with fail
            go_roundw
            case rel =>
              have hA9 := HA2.out.set_ 0 (.slice A2 (ls.length + 1) c2)
              simp only [List.setIfInBounds_toArray, List.set_cons_zero] at hA9
              refine ⟨k + 1, os ++ [o], s', A2, c2, ls ++ [⟨o, S, d1⟩], by omega, by go_num, HN.out, hid (by rw [List.map_append, HLS.out]; rfl), HO2.out.off HA2.out 0 _, ?_, HB2.out.far (p := ⟨w.heap.size, 0, none⟩) nab.symm _, HC2.out.far (p := ⟨w.heap.size, 0, none⟩) nac.symm _, HR2.out.far (p := ⟨w.heap.size, 0, none⟩) nag.symm _, HW2.out.setCell (p := ⟨w.heap.size, 0, none⟩) (Nat.le_refl _) _⟩
              rw [List.length_append]
              simpa using hA9
            case measure => simp only [intOf]; omega
          · go_simp
            refine hK.out _ _ ?_ (fun hH2 => ?_)
            · exact trivial
            clear hK K
            try simp only [Act.put, List.setIfInBounds_toArray, List.set_cons_zero, List.set_cons_succ]
            refine wpAnyH_ready (rs := [1]) (by kernel_rfl) (by simp) ?_
            refine AllReadyH.cons (i := 1) (o := { dst := some 18, op := Go.Op.load 22 (Go.Operand.tmp 17), type := 22, pos := "snap.go:123", after := #[{ on := 0, ground := Go.Ground.data }], guard := none }) rfl (fun K hK => ?_) AllReadyH.nil
            go_simp
            refine hK.out _ _ ?_ (fun hH3 => ?_)
            · exact trivial
            clear hK K
            try simp only [Act.put, List.setIfInBounds_toArray, List.set_cons_zero, List.set_cons_succ]
            refine wpAnyH_ready (rs := [4]) (by kernel_rfl) (by simp) ?_
            refine AllReadyH.cons (i := 4) (o := { dst := some 21, op := Go.Op.call { callee := Go.Callee.builtin Go.Builtin.append, args := #[Go.Operand.tmp 18, Go.Operand.tmp 20], argTypes := #[22, 22] }, type := 22, pos := "snap.go:123", after := #[{ on := 1, ground := Go.Ground.data }, { on := 3, ground := Go.Ground.data }, { on := 2, ground := Go.Ground.chain }], guard := none }) rfl (fun K hK => ?_) AllReadyH.nil
            rw [if_pos (by rfl)]
            refine wp_app_run (.tmp 18) (.tmp 20) 22 rfl _ _ HRUN.out ?_
            refine hK.out _ _ ?_ (fun hH4 => ?_)
            · exact trivial
            clear hK K
            try simp only [Act.put, List.setIfInBounds_toArray, List.set_cons_zero, List.set_cons_succ]
            refine wpAnyH_take (i := 5) (oi := { dst := some 22, op := Go.Op.fieldAddr 24 (Go.Operand.tmp 2) 0, type := 0, pos := "snap.go:123", after := #[{ on := 0, ground := Go.Ground.phase }, { on := 1, ground := Go.Ground.phase }, { on := 2, ground := Go.Ground.phase }, { on := 3, ground := Go.Ground.phase }, { on := 4, ground := Go.Ground.phase }], guard := none }) (v := ?vv5) rfl (by kernel_rfl) (by kernel_rfl) (by kernel_rfl) (fun _ _ _ h => put_panic8 (i := 22) (by decide) (by decide) (by decide) h) (Or.inl ⟨by rfl, ?hy5⟩) (by assumption) ?rr5
            case hy5 => intro w hSw; (try dsimp only at hSw); go_simp; all_goals with_reducible rfl
            try simp only [Act.put, List.setIfInBounds_toArray, List.set_cons_zero, List.set_cons_succ]
            refine wpAnyH_ready (rs := [6]) (by kernel_rfl) (by simp) ?_
            refine AllReadyH.cons (i := 6) (o := { dst := none, op := Go.Op.store 22 (Go.Operand.tmp 22) (Go.Operand.tmp 21), type := 0, pos := "snap.go:123", after := #[{ on := 5, ground := Go.Ground.data }, { on := 4, ground := Go.Ground.data }, { on := 4, ground := Go.Ground.chain }, { on := 0, ground := Go.Ground.phase }, { on := 1, ground := Go.Ground.phase }, { on := 2, ground := Go.Ground.phase }, { on := 3, ground := Go.Ground.phase }, { on := 4, ground := Go.Ground.phase }], guard := none }) rfl (fun K hK => ?_) AllReadyH.nil
            go_simp
            refine hK.out _ _ ?_ (fun hH5 => ?_)
            · exact trivial
            clear hK K
            try simp only [Act.put, List.setIfInBounds_toArray, List.set_cons_zero, List.set_cons_succ]
            refine wpAnyH_done (by kernel_rfl) ?_ _
            go_wp2_with fail
            go_roundw
            case rel =>
              have hA9 := HA2.out.set_ 0 (.slice A2 (ls.length + 1) c2)
              simp only [List.setIfInBounds_toArray, List.set_cons_zero] at hA9
              refine ⟨k + 1, os ++ [o], s', A2, c2, ls ++ [⟨o, S, d1⟩], by omega, by go_num, HN.out, hid (by rw [List.map_append, HLS.out]; rfl), HO2.out.off HA2.out 0 _, ?_, HB2.out.far (p := ⟨w.heap.size, 0, none⟩) nab.symm _, HC2.out.far (p := ⟨w.heap.size, 0, none⟩) nac.symm _, HR2.out.far (p := ⟨w.heap.size, 0, none⟩) nag.symm _, HW2.out.setCell (p := ⟨w.heap.size, 0, none⟩) (Nat.le_refl _) _⟩
              rw [List.length_append]
              simpa using hA9
            case measure => simp only [intOf]; omega
    · obtain rfl : k = m := by omega
      have E7 : Hid (rd8 t = (ls8 64 s).bind fun r => some (⟨os, cp, la⟩, r.1)) := by show _ = _; rw [E6.out]; show (obs8 k s4).bind _ = _; rw [HV.out]; rfl
      rcases hp : ls8 64 s with _ | ⟨rs, s'⟩
      · have HP := hid hp
        have HQ0 : Hid (rd8 t = none) := by show _ = _; rw [E7.out, hp]; rfl
        clear hp
        go_upto_region 10 with fail
        have x0 := HA.out.cell 0
        have x1 := HA.out.cell 1
        have x2 := HA.out.cell 2
        simp only [List.getElem?_toArray, List.getElem?_cons_zero, List.getElem?_cons_succ] at x0 x1 x2
        refine wp_region_held_drew (S := (fun _ => True)) (by kernel_rfl) ?_ (fun hH0 => ?_)
        · exact trivial
        refine wpAnyH_ready (rs := [0, 1]) (by kernel_rfl) (by simp) ?_
        refine AllReadyH.cons (i := 0) (o := { dst := some 24, op := Go.Op.load 24 (Go.Operand.tmp 2), type := 24, pos := "snap.go:125", after := #[], guard := none }) rfl (fun K hK => ?_) (AllReadyH.cons (i := 1) (o := { dst := some 25, op := Go.Op.call { callee := Go.Callee.value (Go.Operand.func 102), args := #[Go.Operand.tmp 5, Go.Operand.const (Go.Value.int Go.IntKind.i64 64)], argTypes := #[104, 3] }, type := 44, pos := "snap.go:125", after := #[], guard := none }) rfl (fun K hK => ?_) AllReadyH.nil)
        · go_simp
          refine hK.out _ _ ?_ (fun hH1 => ?_)
          · exact trivial
          clear hK K
          try simp only [Act.put, List.setIfInBounds_toArray, List.set_cons_zero, List.set_cons_succ]
          refine wpAnyH_ready (rs := [1]) (by kernel_rfl) (by simp) ?_
          refine AllReadyH.cons (i := 1) (o := { dst := some 25, op := Go.Op.call { callee := Go.Callee.value (Go.Operand.func 102), args := #[Go.Operand.tmp 5, Go.Operand.const (Go.Value.int Go.IntKind.i64 64)], argTypes := #[104, 3] }, type := 44, pos := "snap.go:125", after := #[], guard := none }) rfl (fun K hK => ?_) AllReadyH.nil
          go_simp
          go_at_call 102
          refine (plist_any8 s 64 (by omega) (by omega) g _ (HR.out.later (Below.refl _ wr).drew) hlk).mono ?_
          rintro e w9 ⟨h1, h2, -⟩
          have h1 := (only_below (g := g) (Below.refl _ wr).drew).then_ h1
          obtain rfl := h2 HP.out
          have HQ : Hid (rd8 t = none) := HQ0
          have HX := hid (only_below8 h1 HW.out HLG.out HW.out.size)
          have KA := h1.lies HA.out nag
          have KB := h1.lies HB.out nbg
          have KC := h1.lies HC.out ncg
          have HKA := hid KA
          have HKB := hid KB
          have HKC := hid KC
          clear h1 h2 KA KB KC
          go_wp2_with fail
          refine leaves_cons (f := 97) (args := #[.pointer (some ⟨w.heap.size, 0, none⟩), .pointer (some ⟨b, 0, none⟩), .pointer (some ⟨c, 0, none⟩)]) (by simp) (by simp [go_sem]) ?_
          refine (catch_stop8 w.heap.size b c _ _ _ _ _ _ HKA.out HKB.out HKC.out nab nac nbc).mono ?_
          rintro e u' w8 ⟨rfl, hs, ka, kb, kc, hbel⟩
          have r0 := ka.cell 0
          have r1 := ka.cell 1
          have r2 := ka.cell 2
          have r3 := kb.cell 0
          have r4 := kc.cell 0
          simp only [List.getElem?_toArray, List.getElem?_cons_zero, List.getElem?_cons_succ] at r0 r1 r2 r3 r4
          show Leaves _ _ _ _ [] (settle u') w8
          rw [hs]
          refine ⟨.tuple #[.agg #[.slice none 0 0, .int .i64 0, .int .i64 0], .slice none 0 0, .int .i64 82], by simp [results, Try.results68, go_sem, r0, r1, r2, r3, r4], ?_⟩
          exact ⟨HX.out.trans (hbel w.heap.size (Nat.le_refl _) HLB.out HLC.out), fun _ => rfl, fun h rs e => by rw [HQ.out] at e; cases e⟩
        · go_simp
          go_at_call 102
          refine (plist_any8 s 64 (by omega) (by omega) g _ (HR.out.later (Below.refl _ wr).drew) hlk).mono ?_
          rintro e w9 ⟨h1, h2, -⟩
          have h1 := (only_below (g := g) (Below.refl _ wr).drew).then_ h1
          obtain rfl := h2 HP.out
          have HQ : Hid (rd8 t = none) := HQ0
          have HX := hid (only_below8 h1 HW.out HLG.out HW.out.size)
          have KA := h1.lies HA.out nag
          have KB := h1.lies HB.out nbg
          have KC := h1.lies HC.out ncg
          have HKA := hid KA
          have HKB := hid KB
          have HKC := hid KC
          clear h1 h2 KA KB KC
          go_wp2_with fail
          refine leaves_cons (f := 97) (args := #[.pointer (some ⟨w.heap.size, 0, none⟩), .pointer (some ⟨b, 0, none⟩), .pointer (some ⟨c, 0, none⟩)]) (by simp) (by simp [go_sem]) ?_
          refine (catch_stop8 w.heap.size b c _ _ _ _ _ _ HKA.out HKB.out HKC.out nab nac nbc).mono ?_
          rintro e u' w8 ⟨rfl, hs, ka, kb, kc, hbel⟩
          have r0 := ka.cell 0
          have r1 := ka.cell 1
          have r2 := ka.cell 2
          have r3 := kb.cell 0
          have r4 := kc.cell 0
          simp only [List.getElem?_toArray, List.getElem?_cons_zero, List.getElem?_cons_succ] at r0 r1 r2 r3 r4
          show Leaves _ _ _ _ [] (settle u') w8
          rw [hs]
          refine ⟨.tuple #[.agg #[.slice none 0 0, .int .i64 0, .int .i64 0], .slice none 0 0, .int .i64 82], by simp [results, Try.results68, go_sem, r0, r1, r2, r3, r4], ?_⟩
          exact ⟨HX.out.trans (hbel w.heap.size (Nat.le_refl _) HLB.out HLC.out), fun _ => rfl, fun h rs e => by rw [HQ.out] at e; cases e⟩
      · have HP := hid hp
        have HQ0 : Hid (rd8 t = some (⟨os, cp, la⟩, rs)) := by show _ = _; rw [E7.out, hp]; rfl
        clear hp
        go_upto_region 10 with fail
        have x0 := HA.out.cell 0
        have x1 := HA.out.cell 1
        have x2 := HA.out.cell 2
        simp only [List.getElem?_toArray, List.getElem?_cons_zero, List.getElem?_cons_succ] at x0 x1 x2
        refine wp_region_held_drew (S := (fun _ => True)) (by kernel_rfl) ?_ (fun hH0 => ?_)
        · exact trivial
        refine wpAnyH_ready (rs := [0, 1]) (by kernel_rfl) (by simp) ?_
        refine AllReadyH.cons (i := 0) (o := { dst := some 24, op := Go.Op.load 24 (Go.Operand.tmp 2), type := 24, pos := "snap.go:125", after := #[], guard := none }) rfl (fun K hK => ?_) (AllReadyH.cons (i := 1) (o := { dst := some 25, op := Go.Op.call { callee := Go.Callee.value (Go.Operand.func 102), args := #[Go.Operand.tmp 5, Go.Operand.const (Go.Value.int Go.IntKind.i64 64)], argTypes := #[104, 3] }, type := 44, pos := "snap.go:125", after := #[], guard := none }) rfl (fun K hK => ?_) AllReadyH.nil)
        · go_simp
          refine hK.out _ _ ?_ (fun hH1 => ?_)
          · exact trivial
          clear hK K
          try simp only [Act.put, List.setIfInBounds_toArray, List.set_cons_zero, List.set_cons_succ]
          refine wpAnyH_ready (rs := [1]) (by kernel_rfl) (by simp) ?_
          refine AllReadyH.cons (i := 1) (o := { dst := some 25, op := Go.Op.call { callee := Go.Callee.value (Go.Operand.func 102), args := #[Go.Operand.tmp 5, Go.Operand.const (Go.Value.int Go.IntKind.i64 64)], argTypes := #[104, 3] }, type := 44, pos := "snap.go:125", after := #[], guard := none }) rfl (fun K hK => ?_) AllReadyH.nil
          go_simp
          go_at_call 102
          refine (plist_any8 s 64 (by omega) (by omega) g _ (HR.out.later (Below.refl _ wr).drew) hlk).mono ?_
          rintro e v1 ⟨h2, -, h3⟩
          obtain ⟨⟨A5, c5, rfl, hown⟩, h1⟩ := h3 rs s' HP.out
          have hY : Only g wr v1 := (only_below (Below.refl _ wr).drew).then_ h2
          have HO1 := hid (hY.ownH8 HR.out HO.out)
          have HA1 := hid (hY.lies HA.out nag)
          have HB1 := hid (hY.lies HB.out nbg)
          have HC1 := hid (hY.lies HC.out ncg)
          have HW1 := hid (only_below8 hY HW.out HLG.out HW.out.size)
          have HI1 := hid (own_lower hown HW.out.size)
          have y0 := HA1.out.cell 0
          have y1 := HA1.out.cell 1
          have y2 := HA1.out.cell 2
          have y3 := HB1.out.cell 0
          have y4 := HC1.out.cell 0
          have yf0 := HA1.out.frozen 0
          have yf1 := HA1.out.frozen 1
          have yf2 := HA1.out.frozen 2
          have yf3 := HB1.out.frozen 0
          have yf4 := HC1.out.frozen 0
          simp only [List.getElem?_toArray, List.getElem?_cons_zero, List.getElem?_cons_succ] at y0 y1 y2 y3 y4
          clear hown hY h1 h2 h3
          refine hK.out _ _ ?_ (fun hH2 => ?_)
          · exact trivial
          clear hK K
          try simp only [Act.put, List.setIfInBounds_toArray, List.set_cons_zero, List.set_cons_succ]
          refine wpAnyH_ready (rs := [2]) (by kernel_rfl) (by simp) ?_
          refine AllReadyH.cons (i := 2) (o := { dst := none, op := Go.Op.store 24 (Go.Operand.tmp 2) (Go.Operand.tmp 24), type := 0, pos := "snap.go:125", after := #[{ on := 0, ground := Go.Ground.data }, { on := 1, ground := Go.Ground.chain }, { on := 0, ground := Go.Ground.phase }, { on := 1, ground := Go.Ground.textOnly Go.Departure.lateStoresUnsure }], guard := none }) rfl (fun K hK => ?_) AllReadyH.nil
          go_simp
          refine hK.out _ _ ?_ (fun hH3 => ?_)
          · exact trivial
          clear hK K
          try simp only [Act.put, List.setIfInBounds_toArray, List.set_cons_zero, List.set_cons_succ]
          refine wpAnyH_ready (rs := [3]) (by kernel_rfl) (by simp) ?_
          refine AllReadyH.cons (i := 3) (o := { dst := none, op := Go.Op.store 44 (Go.Operand.tmp 3) (Go.Operand.tmp 25), type := 0, pos := "snap.go:125", after := #[{ on := 1, ground := Go.Ground.data }, { on := 2, ground := Go.Ground.chain }, { on := 0, ground := Go.Ground.phase }, { on := 1, ground := Go.Ground.phase }, { on := 2, ground := Go.Ground.phase }], guard := none }) rfl (fun K hK => ?_) AllReadyH.nil
          go_simp
          refine hK.out _ _ ?_ (fun hH4 => ?_)
          · exact trivial
          clear hK K
          try simp only [Act.put, List.setIfInBounds_toArray, List.set_cons_zero, List.set_cons_succ]
          refine wpAnyH_ready (rs := [4]) (by kernel_rfl) (by simp) ?_
          refine AllReadyH.cons (i := 4) (o := { dst := none, op := Go.Op.store 29 (Go.Operand.tmp 4) (Go.Operand.const (Go.Value.int Go.IntKind.i64 0)), type := 0, pos := "snap.go:125", after := #[{ on := 3, ground := Go.Ground.chain }, { on := 0, ground := Go.Ground.phase }, { on := 1, ground := Go.Ground.phase }, { on := 2, ground := Go.Ground.phase }, { on := 3, ground := Go.Ground.phase }], guard := none }) rfl (fun K hK => ?_) AllReadyH.nil
          go_simp
          refine hK.out _ _ ?_ (fun hH5 => ?_)
          · exact trivial
          clear hK K
          try simp only [Act.put, List.setIfInBounds_toArray, List.set_cons_zero, List.set_cons_succ]
          refine wpAnyH_done (by kernel_rfl) ?_ _
          go_wp2_with fail
          refine leaves_cons (f := 97) (args := #[.pointer (some ⟨w.heap.size, 0, none⟩), .pointer (some ⟨b, 0, none⟩), .pointer (some ⟨c, 0, none⟩)]) (by simp) (by simp [go_sem]) ?_
          refine (catch_none8 _ _ _ _).mono ?_
          rintro e u' w8 ⟨rfl, rfl, hW⟩
          have XA := ((((HA1.out.set_ 0 (.slice A ls.length d)).set_ 1 (.int .i64 cp)).set_ 2 (.int .i64 la)).far (p := ⟨b, 0, none⟩) nab (.slice A5 rs.length c5)).far (p := ⟨c, 0, none⟩) nac (.int .i64 0)
          have XB := ((((HB1.out.far (p := ⟨w.heap.size, 0, none⟩) nab.symm (.slice A ls.length d)).far (p := ⟨w.heap.size, 1, none⟩) nab.symm (.int .i64 cp)).far (p := ⟨w.heap.size, 2, none⟩) nab.symm (.int .i64 la)).set_ 0 (.slice A5 rs.length c5)).far (p := ⟨c, 0, none⟩) nbc (.int .i64 0)
          have XC := ((((HC1.out.far (p := ⟨w.heap.size, 0, none⟩) nac.symm (.slice A ls.length d)).far (p := ⟨w.heap.size, 1, none⟩) nac.symm (.int .i64 cp)).far (p := ⟨w.heap.size, 2, none⟩) nac.symm (.int .i64 la)).far (p := ⟨b, 0, none⟩) nbc.symm (.slice A5 rs.length c5)).set_ 0 (.int .i64 0)
          rw [← hW] at XA XB XC
          have r0 := XA.cell 0
          have r1 := XA.cell 1
          have r2 := XA.cell 2
          have r3 := XB.cell 0
          have r4 := XC.cell 0
          simp only [List.setIfInBounds_toArray, List.set_cons_zero, List.set_cons_succ, List.getElem?_toArray, List.getElem?_cons_zero, List.getElem?_cons_succ] at r0 r1 r2 r3 r4
          refine ⟨.tuple #[.agg #[.slice A ls.length d, .int .i64 cp, .int .i64 la], .slice A5 rs.length c5, .int .i64 0], by simp [results, Try.results68, go_sem, r0, r1, r2, r3, r4], ?_⟩
          rw [hW]
          refine ⟨((((HW1.out.setCell (p := ⟨w.heap.size, 0, none⟩) (Nat.le_refl _) _).setCell (p := ⟨w.heap.size, 1, none⟩) (Nat.le_refl _) _).setCell (p := ⟨w.heap.size, 2, none⟩) (Nat.le_refl _) _).setCell (p := ⟨b, 0, none⟩) HLB.out _).setCell (p := ⟨c, 0, none⟩) HLC.out _, (fun e => by rw [HQ0.out] at e; cases e), fun h rs' e => ?_⟩
          rw [HQ0.out] at e
          cases e
          have Y1 := HA1.out.set_ 0 (.slice A ls.length d)
          have Y2 := Y1.set_ 1 (.int .i64 cp)
          have Y3 := HB1.out.far (p := ⟨w.heap.size, 0, none⟩) nab.symm (.slice A ls.length d) |>.far (p := ⟨w.heap.size, 1, none⟩) nab.symm (.int .i64 cp) |>.far (p := ⟨w.heap.size, 2, none⟩) nab.symm (.int .i64 la)
          have Y4 := HC1.out.far (p := ⟨w.heap.size, 0, none⟩) nac.symm (.slice A ls.length d) |>.far (p := ⟨w.heap.size, 1, none⟩) nac.symm (.int .i64 cp) |>.far (p := ⟨w.heap.size, 2, none⟩) nac.symm (.int .i64 la) |>.far (p := ⟨b, 0, none⟩) nbc.symm (.slice A5 rs.length c5)
          refine ⟨A, d, A5, c5, ls, by rw [← HLS.out, List.length_map], HLS.out, ?_, ?_⟩
          · exact ((((HO1.out.off HA1.out 0 _).off Y1 1 _).off Y2 2 _).off8 Y3 (by decide) (by decide) 0 _).off8 Y4 (by decide) (by decide) 0 _
          · have hz : ∀ {W : World} {i : Nat} {T : TypeId} {cs : Array Value} {n d5 : Nat} {R5 : Option Addr} {xs : List Value} (_ : W.ownsRow w.heap.size 3 1 (.slice R5 n d5) n xs) (_ : Lies W i T cs) (_ : 3 ≠ T) (j : Nat) (u : Value), (W.setCell ⟨i, j, none⟩ u).ownsRow w.heap.size 3 1 (.slice R5 n d5) n xs := fun h1 h2 h3 j u => ownsRow_setCell_other h1 (own_blk_ne h1 h2 h3) u
            exact hz (hz (hz (hz (hz HI1.out HA1.out (by decide) 0 _) Y1 (by decide) 1 _) Y2 (by decide) 2 _) Y3 (by decide) 0 _) Y4 (by decide) 0 _
        · go_simp
          go_at_call 102
          refine (plist_any8 s 64 (by omega) (by omega) g _ (HR.out.later (Below.refl _ wr).drew) hlk).mono ?_
          rintro e v1 ⟨h2, -, h3⟩
          obtain ⟨⟨A5, c5, rfl, hown⟩, h1⟩ := h3 rs s' HP.out
          have hY : Only g wr v1 := (only_below (Below.refl _ wr).drew).then_ h2
          have HO1 := hid (hY.ownH8 HR.out HO.out)
          have HA1 := hid (hY.lies HA.out nag)
          have HB1 := hid (hY.lies HB.out nbg)
          have HC1 := hid (hY.lies HC.out ncg)
          have HW1 := hid (only_below8 hY HW.out HLG.out HW.out.size)
          have HI1 := hid (own_lower hown HW.out.size)
          have y0 := HA1.out.cell 0
          have y1 := HA1.out.cell 1
          have y2 := HA1.out.cell 2
          have y3 := HB1.out.cell 0
          have y4 := HC1.out.cell 0
          have yf0 := HA1.out.frozen 0
          have yf1 := HA1.out.frozen 1
          have yf2 := HA1.out.frozen 2
          have yf3 := HB1.out.frozen 0
          have yf4 := HC1.out.frozen 0
          simp only [List.getElem?_toArray, List.getElem?_cons_zero, List.getElem?_cons_succ] at y0 y1 y2 y3 y4
          clear hown hY h1 h2 h3
          refine hK.out _ _ ?_ (fun hH1 => ?_)
          · exact trivial
          clear hK K
          try simp only [Act.put, List.setIfInBounds_toArray, List.set_cons_zero, List.set_cons_succ]
          refine wpAnyH_ready (rs := [0]) (by kernel_rfl) (by simp) ?_
          refine AllReadyH.cons (i := 0) (o := { dst := some 24, op := Go.Op.load 24 (Go.Operand.tmp 2), type := 24, pos := "snap.go:125", after := #[], guard := none }) rfl (fun K hK => ?_) AllReadyH.nil
          go_simp
          refine hK.out _ _ ?_ (fun hH2 => ?_)
          · exact trivial
          clear hK K
          try simp only [Act.put, List.setIfInBounds_toArray, List.set_cons_zero, List.set_cons_succ]
          refine wpAnyH_ready (rs := [2]) (by kernel_rfl) (by simp) ?_
          refine AllReadyH.cons (i := 2) (o := { dst := none, op := Go.Op.store 24 (Go.Operand.tmp 2) (Go.Operand.tmp 24), type := 0, pos := "snap.go:125", after := #[{ on := 0, ground := Go.Ground.data }, { on := 1, ground := Go.Ground.chain }, { on := 0, ground := Go.Ground.phase }, { on := 1, ground := Go.Ground.textOnly Go.Departure.lateStoresUnsure }], guard := none }) rfl (fun K hK => ?_) AllReadyH.nil
          go_simp
          refine hK.out _ _ ?_ (fun hH3 => ?_)
          · exact trivial
          clear hK K
          try simp only [Act.put, List.setIfInBounds_toArray, List.set_cons_zero, List.set_cons_succ]
          refine wpAnyH_ready (rs := [3]) (by kernel_rfl) (by simp) ?_
          refine AllReadyH.cons (i := 3) (o := { dst := none, op := Go.Op.store 44 (Go.Operand.tmp 3) (Go.Operand.tmp 25), type := 0, pos := "snap.go:125", after := #[{ on := 1, ground := Go.Ground.data }, { on := 2, ground := Go.Ground.chain }, { on := 0, ground := Go.Ground.phase }, { on := 1, ground := Go.Ground.phase }, { on := 2, ground := Go.Ground.phase }], guard := none }) rfl (fun K hK => ?_) AllReadyH.nil
          go_simp
          refine hK.out _ _ ?_ (fun hH4 => ?_)
          · exact trivial
          clear hK K
          try simp only [Act.put, List.setIfInBounds_toArray, List.set_cons_zero, List.set_cons_succ]
          refine wpAnyH_ready (rs := [4]) (by kernel_rfl) (by simp) ?_
          refine AllReadyH.cons (i := 4) (o := { dst := none, op := Go.Op.store 29 (Go.Operand.tmp 4) (Go.Operand.const (Go.Value.int Go.IntKind.i64 0)), type := 0, pos := "snap.go:125", after := #[{ on := 3, ground := Go.Ground.chain }, { on := 0, ground := Go.Ground.phase }, { on := 1, ground := Go.Ground.phase }, { on := 2, ground := Go.Ground.phase }, { on := 3, ground := Go.Ground.phase }], guard := none }) rfl (fun K hK => ?_) AllReadyH.nil
          go_simp
          refine hK.out _ _ ?_ (fun hH5 => ?_)
          · exact trivial
          clear hK K
          try simp only [Act.put, List.setIfInBounds_toArray, List.set_cons_zero, List.set_cons_succ]
          refine wpAnyH_done (by kernel_rfl) ?_ _
          go_wp2_with fail
          refine leaves_cons (f := 97) (args := #[.pointer (some ⟨w.heap.size, 0, none⟩), .pointer (some ⟨b, 0, none⟩), .pointer (some ⟨c, 0, none⟩)]) (by simp) (by simp [go_sem]) ?_
          refine (catch_none8 _ _ _ _).mono ?_
          rintro e u' w8 ⟨rfl, rfl, hW⟩
          have XA := ((((HA1.out.set_ 0 (.slice A ls.length d)).set_ 1 (.int .i64 cp)).set_ 2 (.int .i64 la)).far (p := ⟨b, 0, none⟩) nab (.slice A5 rs.length c5)).far (p := ⟨c, 0, none⟩) nac (.int .i64 0)
          have XB := ((((HB1.out.far (p := ⟨w.heap.size, 0, none⟩) nab.symm (.slice A ls.length d)).far (p := ⟨w.heap.size, 1, none⟩) nab.symm (.int .i64 cp)).far (p := ⟨w.heap.size, 2, none⟩) nab.symm (.int .i64 la)).set_ 0 (.slice A5 rs.length c5)).far (p := ⟨c, 0, none⟩) nbc (.int .i64 0)
          have XC := ((((HC1.out.far (p := ⟨w.heap.size, 0, none⟩) nac.symm (.slice A ls.length d)).far (p := ⟨w.heap.size, 1, none⟩) nac.symm (.int .i64 cp)).far (p := ⟨w.heap.size, 2, none⟩) nac.symm (.int .i64 la)).far (p := ⟨b, 0, none⟩) nbc.symm (.slice A5 rs.length c5)).set_ 0 (.int .i64 0)
          rw [← hW] at XA XB XC
          have r0 := XA.cell 0
          have r1 := XA.cell 1
          have r2 := XA.cell 2
          have r3 := XB.cell 0
          have r4 := XC.cell 0
          simp only [List.setIfInBounds_toArray, List.set_cons_zero, List.set_cons_succ, List.getElem?_toArray, List.getElem?_cons_zero, List.getElem?_cons_succ] at r0 r1 r2 r3 r4
          refine ⟨.tuple #[.agg #[.slice A ls.length d, .int .i64 cp, .int .i64 la], .slice A5 rs.length c5, .int .i64 0], by simp [results, Try.results68, go_sem, r0, r1, r2, r3, r4], ?_⟩
          rw [hW]
          refine ⟨((((HW1.out.setCell (p := ⟨w.heap.size, 0, none⟩) (Nat.le_refl _) _).setCell (p := ⟨w.heap.size, 1, none⟩) (Nat.le_refl _) _).setCell (p := ⟨w.heap.size, 2, none⟩) (Nat.le_refl _) _).setCell (p := ⟨b, 0, none⟩) HLB.out _).setCell (p := ⟨c, 0, none⟩) HLC.out _, (fun e => by rw [HQ0.out] at e; cases e), fun h rs' e => ?_⟩
          rw [HQ0.out] at e
          cases e
          have Y1 := HA1.out.set_ 0 (.slice A ls.length d)
          have Y2 := Y1.set_ 1 (.int .i64 cp)
          have Y3 := HB1.out.far (p := ⟨w.heap.size, 0, none⟩) nab.symm (.slice A ls.length d) |>.far (p := ⟨w.heap.size, 1, none⟩) nab.symm (.int .i64 cp) |>.far (p := ⟨w.heap.size, 2, none⟩) nab.symm (.int .i64 la)
          have Y4 := HC1.out.far (p := ⟨w.heap.size, 0, none⟩) nac.symm (.slice A ls.length d) |>.far (p := ⟨w.heap.size, 1, none⟩) nac.symm (.int .i64 cp) |>.far (p := ⟨w.heap.size, 2, none⟩) nac.symm (.int .i64 la) |>.far (p := ⟨b, 0, none⟩) nbc.symm (.slice A5 rs.length c5)
          refine ⟨A, d, A5, c5, ls, by rw [← HLS.out, List.length_map], HLS.out, ?_, ?_⟩
          · exact ((((HO1.out.off HA1.out 0 _).off Y1 1 _).off Y2 2 _).off8 Y3 (by decide) (by decide) 0 _).off8 Y4 (by decide) (by decide) 0 _
          · have hz : ∀ {W : World} {i : Nat} {T : TypeId} {cs : Array Value} {n d5 : Nat} {R5 : Option Addr} {xs : List Value} (_ : W.ownsRow w.heap.size 3 1 (.slice R5 n d5) n xs) (_ : Lies W i T cs) (_ : 3 ≠ T) (j : Nat) (u : Value), (W.setCell ⟨i, j, none⟩ u).ownsRow w.heap.size 3 1 (.slice R5 n d5) n xs := fun h1 h2 h3 j u => ownsRow_setCell_other h1 (own_blk_ne h1 h2 h3) u
            exact hz (hz (hz (hz (hz HI1.out HA1.out (by decide) 0 _) Y1 (by decide) 1 _) Y2 (by decide) 2 _) Y3 (by decide) 0 _) Y4 (by decide) 0 _
end Go.Proofs.Ythggafdfglojaaa
