/- value.May walked. The table of primitives. The primitive of a number; how many arguments it takes. -/
import Derived.Test.YtnilempeldlieaaGreatJ02
import Derived.Test.YtnilempeldlieaaGreatJ01
import Derived.Laws.EntriesVeiled
import Derived.Test.YtnilempeldlieaaGreatJ10
namespace Go.Proofs.YtnilempeldlieaaGreat
open Go.RowKit
set_option maxRecDepth 100000
theorem vmay_any (v : Int) (w : World) : Calls Tryz.prog 115 #[.int .i64 v] w fun e w' => e = .returned (.bool (nB v || atB v)) ∧ w = w' := by
  cases hn : nB v
  · go_enter Tryz.func115, Tryz.ntmps115
    go_wp2_with (first | (go_at_call 164; refine (n_any _ _).mono ?_; rintro e w' ⟨rfl, rfl⟩) | (go_at_call 110; refine (at_any _ _).mono ?_; rintro e w' ⟨rfl, rfl⟩))
    go_ret
    exact ⟨rfl, rfl⟩
  · go_enter Tryz.func115, Tryz.ntmps115
    go_wp2_with (first | (go_at_call 164; refine (n_any _ _).mono ?_; rintro e w' ⟨rfl, rfl⟩) | (go_at_call 110; refine (at_any _ _).mono ?_; rintro e w' ⟨rfl, rfl⟩))
    go_ret
    exact ⟨rfl, rfl⟩
end Go.Proofs.YtnilempeldlieaaGreat
namespace Go.Proofs.YtnilempeldlieaaGreat
open Go.RowKit
set_option maxRecDepth 100000
theorem ofnumbers_mk13 (K : Nat) (w : World) : Calls Tryz.prog 134 #[.func (.func K) #[] #[]] w fun e w' => e = .returned (.func (.func 176) #[] #[.pointer (some ⟨w.heap.size, 0, none⟩)]) ∧ w' = w.alloc (.cells #[.func (.func K) #[] #[]] 89) := by
  have hmf : ∀ (fn : Fn) (first cap : Array Value) (w : World), (Instr.makeFunc fn first cap).run Tryz.prog w = .ok (.func fn first cap) w := fun _ _ _ _ => rfl
  go_enter Tryz.func134, Tryz.ntmps134
  go_wp2
  go_ret
  exact ⟨rfl, rfl⟩
theorem comparing_mk13 (K : Nat) (w : World) : Calls Tryz.prog 152 #[.func (.func K) #[] #[]] w fun e w' => e = .returned (.func (.func 196) #[] #[.pointer (some ⟨w.heap.size, 0, none⟩)]) ∧ w' = w.alloc (.cells #[.func (.func K) #[] #[]] 75) := by
  have hmf : ∀ (fn : Fn) (first cap : Array Value) (w : World), (Instr.makeFunc fn first cap).run Tryz.prog w = .ok (.func fn first cap) w := fun _ _ _ _ => rfl
  go_enter Tryz.func152, Tryz.ntmps152
  go_wp2
  go_ret
  exact ⟨rfl, rfl⟩
theorem offloats_mk13 (x : Int) (w : World) : Calls Tryz.prog 151 #[.int .i64 x] w fun e w' => e = .returned (.func (.func 192) #[] #[.pointer (some ⟨w.heap.size, 0, none⟩)]) ∧ w' = w.alloc (.cells #[.int .i64 x] 3) := by
  have hmf : ∀ (fn : Fn) (first cap : Array Value) (w : World), (Instr.makeFunc fn first cap).run Tryz.prog w = .ok (.func fn first cap) w := fun _ _ _ _ => rfl
  go_enter Tryz.func151, Tryz.ntmps151
  go_wp2
  go_ret
  exact ⟨rfl, rfl⟩
theorem instanceof_mk13 (x : Int) (w : World) : Calls Tryz.prog 146 #[.int .i64 x] w fun e w' => e = .returned (.func (.func 188) #[] #[.pointer (some ⟨w.heap.size, 0, none⟩)]) ∧ w' = w.alloc (.cells #[.int .i64 x] 3) := by
  have hmf : ∀ (fn : Fn) (first cap : Array Value) (w : World), (Instr.makeFunc fn first cap).run Tryz.prog w = .ok (.func fn first cap) w := fun _ _ _ _ => rfl
  go_enter Tryz.func146, Tryz.ntmps146
  go_wp2
  go_ret
  exact ⟨rfl, rfl⟩
def kv13 : List Value := [.func (.func 135) #[] #[], .func (.func 136) #[] #[], .func (.func 137) #[] #[], .func (.func 138) #[] #[], .func (.func 139) #[] #[], .int .i64 0, .int .i64 0, .int .i64 1, .int .i64 2, .int .i64 3, .func (.func 153) #[] #[], .func (.func 154) #[] #[], .int .i64 1]
def tb13 (n : Nat) : List Value := [.int .i64 0, .nilFunc, .int .i64 1, .func (.func 176) #[] #[.pointer (some ⟨n + 0, 0, none⟩)], .int .i64 1, .func (.func 176) #[] #[.pointer (some ⟨n + 1, 0, none⟩)], .int .i64 1, .func (.func 176) #[] #[.pointer (some ⟨n + 2, 0, none⟩)], .int .i64 1, .func (.func 176) #[] #[.pointer (some ⟨n + 3, 0, none⟩)], .int .i64 1, .func (.func 176) #[] #[.pointer (some ⟨n + 4, 0, none⟩)], .int .i64 1, .func (.func 140) #[] #[], .int .i64 1, .func (.func 141) #[] #[], .int .i64 1, .func (.func 142) #[] #[], .int .i64 2, .func (.func 143) #[] #[], .int .i64 0, .func (.func 144) #[] #[], .int .i64 0, .func (.func 145) #[] #[], .int .i64 1, .func (.func 188) #[] #[.pointer (some ⟨n + 5, 0, none⟩)], .int .i64 0, .func (.func 147) #[] #[], .int .i64 1, .func (.func 148) #[] #[], .int .i64 0, .func (.func 149) #[] #[], .int .i64 1, .func (.func 150) #[] #[], .int .i64 1, .func (.func 192) #[] #[.pointer (some ⟨n + 6, 0, none⟩)], .int .i64 1, .func (.func 192) #[] #[.pointer (some ⟨n + 7, 0, none⟩)], .int .i64 1, .func (.func 192) #[] #[.pointer (some ⟨n + 8, 0, none⟩)], .int .i64 1, .func (.func 192) #[] #[.pointer (some ⟨n + 9, 0, none⟩)], .int .i64 1, .func (.func 196) #[] #[.pointer (some ⟨n + 10, 0, none⟩)], .int .i64 1, .func (.func 196) #[] #[.pointer (some ⟨n + 11, 0, none⟩)], .int .i64 0, .func (.func 155) #[] #[], .int .i64 0, .func (.func 156) #[] #[], .int .i64 1, .func (.func 157) #[] #[], .int .i64 2, .func (.func 158) #[] #[], .int .i64 1, .func (.func 188) #[] #[.pointer (some ⟨n + 12, 0, none⟩)]]
set_option maxHeartbeats 4000000 in
theorem table_any13 (w : World) : Calls Tryz.prog 95 #[] w fun e w' => e = .returned (.slice (some ⟨w.heap.size + 13, 0, none⟩) 28 28) ∧ Below w.heap.size w w' ∧
    (∀ (k : Nat) (v : Value), kv13[k]? = some v → w'.cell? ⟨w.heap.size + k, 0, none⟩ = some v) ∧ (∀ (k : Nat) (v : Value), (tb13 w.heap.size)[k]? = some v → w'.cell? ⟨w.heap.size + 13, k, none⟩ = some v) := by
  obtain ⟨n, hn⟩ : ∃ n, n = w.heap.size := ⟨_, rfl⟩
  rw [← hn]
  have HN := hid hn
  have HB0 : Hid (Below n w w) := by show Below _ _ _; rw [hn]; exact Below.refl _ _
  have HZ0 : Hid (w.heap.size = n + 0) := by show _ = _; rw [hn]; rfl
  clear hn
  go_enter Tryz.func95, Tryz.ntmps95
  go_wp2_with fail
  refine (ofnumbers_mk13 _ _).mono ?_
  rintro e w1 ⟨rfl, hw⟩
  rw [HZ0.out]
  have HC0_1 : Hid (Lies w1 (n + 0) 89 #[.func (.func 135) #[] #[]]) := by show Lies _ _ _ _; rw [hw, ← HZ0.out]; exact Lies.new _ _ _
  have hb : Below w.heap.size w w1 := by rw [hw]; exact below_alloc _ _
  have HB1 : Hid (Below n w w1) := HB0.out.trans (hb.mono (by rw [HZ0.out]; exact Nat.le_add_right _ _))
  have HZ1 : Hid (w1.heap.size = n + 1) := by show _ = _; rw [hw]; simp [HZ0.out]
  clear hw hb HB0 HZ0
  go_wp2_with fail
  refine (ofnumbers_mk13 _ _).mono ?_
  rintro e w2 ⟨rfl, hw⟩
  rw [HZ1.out]
  have HC1_2 : Hid (Lies w2 (n + 1) 89 #[.func (.func 136) #[] #[]]) := by show Lies _ _ _ _; rw [hw, ← HZ1.out]; exact Lies.new _ _ _
  have hb : Below w1.heap.size w1 w2 := by rw [hw]; exact below_alloc _ _
  have HB2 : Hid (Below n w w2) := HB1.out.trans (hb.mono (by rw [HZ1.out]; exact Nat.le_add_right _ _))
  have HZ2 : Hid (w2.heap.size = n + 2) := by show _ = _; rw [hw]; simp [HZ1.out]
  have HC0_2 := hid (HC0_1.out.later hb)
  clear hw hb HB1 HZ1 HC0_1
  go_wp2_with fail
  refine (ofnumbers_mk13 _ _).mono ?_
  rintro e w3 ⟨rfl, hw⟩
  rw [HZ2.out]
  have HC2_3 : Hid (Lies w3 (n + 2) 89 #[.func (.func 137) #[] #[]]) := by show Lies _ _ _ _; rw [hw, ← HZ2.out]; exact Lies.new _ _ _
  have hb : Below w2.heap.size w2 w3 := by rw [hw]; exact below_alloc _ _
  have HB3 : Hid (Below n w w3) := HB2.out.trans (hb.mono (by rw [HZ2.out]; exact Nat.le_add_right _ _))
  have HZ3 : Hid (w3.heap.size = n + 3) := by show _ = _; rw [hw]; simp [HZ2.out]
  have HC0_3 := hid (HC0_2.out.later hb)
  have HC1_3 := hid (HC1_2.out.later hb)
  clear hw hb HB2 HZ2 HC0_2 HC1_2
  go_wp2_with fail
  refine (ofnumbers_mk13 _ _).mono ?_
  rintro e w4 ⟨rfl, hw⟩
  rw [HZ3.out]
  have HC3_4 : Hid (Lies w4 (n + 3) 89 #[.func (.func 138) #[] #[]]) := by show Lies _ _ _ _; rw [hw, ← HZ3.out]; exact Lies.new _ _ _
  have hb : Below w3.heap.size w3 w4 := by rw [hw]; exact below_alloc _ _
  have HB4 : Hid (Below n w w4) := HB3.out.trans (hb.mono (by rw [HZ3.out]; exact Nat.le_add_right _ _))
  have HZ4 : Hid (w4.heap.size = n + 4) := by show _ = _; rw [hw]; simp [HZ3.out]
  have HC0_4 := hid (HC0_3.out.later hb)
  have HC1_4 := hid (HC1_3.out.later hb)
  have HC2_4 := hid (HC2_3.out.later hb)
  clear hw hb HB3 HZ3 HC0_3 HC1_3 HC2_3
  go_wp2_with fail
  refine (ofnumbers_mk13 _ _).mono ?_
  rintro e w5 ⟨rfl, hw⟩
  rw [HZ4.out]
  have HC4_5 : Hid (Lies w5 (n + 4) 89 #[.func (.func 139) #[] #[]]) := by show Lies _ _ _ _; rw [hw, ← HZ4.out]; exact Lies.new _ _ _
  have hb : Below w4.heap.size w4 w5 := by rw [hw]; exact below_alloc _ _
  have HB5 : Hid (Below n w w5) := HB4.out.trans (hb.mono (by rw [HZ4.out]; exact Nat.le_add_right _ _))
  have HZ5 : Hid (w5.heap.size = n + 5) := by show _ = _; rw [hw]; simp [HZ4.out]
  have HC0_5 := hid (HC0_4.out.later hb)
  have HC1_5 := hid (HC1_4.out.later hb)
  have HC2_5 := hid (HC2_4.out.later hb)
  have HC3_5 := hid (HC3_4.out.later hb)
  clear hw hb HB4 HZ4 HC0_4 HC1_4 HC2_4 HC3_4
  go_wp2_with fail
  refine (instanceof_mk13 _ _).mono ?_
  rintro e w6 ⟨rfl, hw⟩
  rw [HZ5.out]
  have HC5_6 : Hid (Lies w6 (n + 5) 3 #[.int .i64 0]) := by show Lies _ _ _ _; rw [hw, ← HZ5.out]; exact Lies.new _ _ _
  have hb : Below w5.heap.size w5 w6 := by rw [hw]; exact below_alloc _ _
  have HB6 : Hid (Below n w w6) := HB5.out.trans (hb.mono (by rw [HZ5.out]; exact Nat.le_add_right _ _))
  have HZ6 : Hid (w6.heap.size = n + 6) := by show _ = _; rw [hw]; simp [HZ5.out]
  have HC0_6 := hid (HC0_5.out.later hb)
  have HC1_6 := hid (HC1_5.out.later hb)
  have HC2_6 := hid (HC2_5.out.later hb)
  have HC3_6 := hid (HC3_5.out.later hb)
  have HC4_6 := hid (HC4_5.out.later hb)
  clear hw hb HB5 HZ5 HC0_5 HC1_5 HC2_5 HC3_5 HC4_5
  go_wp2_with fail
  refine (offloats_mk13 _ _).mono ?_
  rintro e w7 ⟨rfl, hw⟩
  rw [HZ6.out]
  have HC6_7 : Hid (Lies w7 (n + 6) 3 #[.int .i64 0]) := by show Lies _ _ _ _; rw [hw, ← HZ6.out]; exact Lies.new _ _ _
  have hb : Below w6.heap.size w6 w7 := by rw [hw]; exact below_alloc _ _
  have HB7 : Hid (Below n w w7) := HB6.out.trans (hb.mono (by rw [HZ6.out]; exact Nat.le_add_right _ _))
  have HZ7 : Hid (w7.heap.size = n + 7) := by show _ = _; rw [hw]; simp [HZ6.out]
  have HC0_7 := hid (HC0_6.out.later hb)
  have HC1_7 := hid (HC1_6.out.later hb)
  have HC2_7 := hid (HC2_6.out.later hb)
  have HC3_7 := hid (HC3_6.out.later hb)
  have HC4_7 := hid (HC4_6.out.later hb)
  have HC5_7 := hid (HC5_6.out.later hb)
  clear hw hb HB6 HZ6 HC0_6 HC1_6 HC2_6 HC3_6 HC4_6 HC5_6
  go_wp2_with fail
  refine (offloats_mk13 _ _).mono ?_
  rintro e w8 ⟨rfl, hw⟩
  rw [HZ7.out]
  have HC7_8 : Hid (Lies w8 (n + 7) 3 #[.int .i64 1]) := by show Lies _ _ _ _; rw [hw, ← HZ7.out]; exact Lies.new _ _ _
  have hb : Below w7.heap.size w7 w8 := by rw [hw]; exact below_alloc _ _
  have HB8 : Hid (Below n w w8) := HB7.out.trans (hb.mono (by rw [HZ7.out]; exact Nat.le_add_right _ _))
  have HZ8 : Hid (w8.heap.size = n + 8) := by show _ = _; rw [hw]; simp [HZ7.out]
  have HC0_8 := hid (HC0_7.out.later hb)
  have HC1_8 := hid (HC1_7.out.later hb)
  have HC2_8 := hid (HC2_7.out.later hb)
  have HC3_8 := hid (HC3_7.out.later hb)
  have HC4_8 := hid (HC4_7.out.later hb)
  have HC5_8 := hid (HC5_7.out.later hb)
  have HC6_8 := hid (HC6_7.out.later hb)
  clear hw hb HB7 HZ7 HC0_7 HC1_7 HC2_7 HC3_7 HC4_7 HC5_7 HC6_7
  go_wp2_with fail
  refine (offloats_mk13 _ _).mono ?_
  rintro e w9 ⟨rfl, hw⟩
  rw [HZ8.out]
  have HC8_9 : Hid (Lies w9 (n + 8) 3 #[.int .i64 2]) := by show Lies _ _ _ _; rw [hw, ← HZ8.out]; exact Lies.new _ _ _
  have hb : Below w8.heap.size w8 w9 := by rw [hw]; exact below_alloc _ _
  have HB9 : Hid (Below n w w9) := HB8.out.trans (hb.mono (by rw [HZ8.out]; exact Nat.le_add_right _ _))
  have HZ9 : Hid (w9.heap.size = n + 9) := by show _ = _; rw [hw]; simp [HZ8.out]
  have HC0_9 := hid (HC0_8.out.later hb)
  have HC1_9 := hid (HC1_8.out.later hb)
  have HC2_9 := hid (HC2_8.out.later hb)
  have HC3_9 := hid (HC3_8.out.later hb)
  have HC4_9 := hid (HC4_8.out.later hb)
  have HC5_9 := hid (HC5_8.out.later hb)
  have HC6_9 := hid (HC6_8.out.later hb)
  have HC7_9 := hid (HC7_8.out.later hb)
  clear hw hb HB8 HZ8 HC0_8 HC1_8 HC2_8 HC3_8 HC4_8 HC5_8 HC6_8 HC7_8
  go_wp2_with fail
  refine (offloats_mk13 _ _).mono ?_
  rintro e w10 ⟨rfl, hw⟩
  rw [HZ9.out]
  have HC9_10 : Hid (Lies w10 (n + 9) 3 #[.int .i64 3]) := by show Lies _ _ _ _; rw [hw, ← HZ9.out]; exact Lies.new _ _ _
  have hb : Below w9.heap.size w9 w10 := by rw [hw]; exact below_alloc _ _
  have HB10 : Hid (Below n w w10) := HB9.out.trans (hb.mono (by rw [HZ9.out]; exact Nat.le_add_right _ _))
  have HZ10 : Hid (w10.heap.size = n + 10) := by show _ = _; rw [hw]; simp [HZ9.out]
  have HC0_10 := hid (HC0_9.out.later hb)
  have HC1_10 := hid (HC1_9.out.later hb)
  have HC2_10 := hid (HC2_9.out.later hb)
  have HC3_10 := hid (HC3_9.out.later hb)
  have HC4_10 := hid (HC4_9.out.later hb)
  have HC5_10 := hid (HC5_9.out.later hb)
  have HC6_10 := hid (HC6_9.out.later hb)
  have HC7_10 := hid (HC7_9.out.later hb)
  have HC8_10 := hid (HC8_9.out.later hb)
  clear hw hb HB9 HZ9 HC0_9 HC1_9 HC2_9 HC3_9 HC4_9 HC5_9 HC6_9 HC7_9 HC8_9
  go_wp2_with fail
  refine (comparing_mk13 _ _).mono ?_
  rintro e w11 ⟨rfl, hw⟩
  rw [HZ10.out]
  have HC10_11 : Hid (Lies w11 (n + 10) 75 #[.func (.func 153) #[] #[]]) := by show Lies _ _ _ _; rw [hw, ← HZ10.out]; exact Lies.new _ _ _
  have hb : Below w10.heap.size w10 w11 := by rw [hw]; exact below_alloc _ _
  have HB11 : Hid (Below n w w11) := HB10.out.trans (hb.mono (by rw [HZ10.out]; exact Nat.le_add_right _ _))
  have HZ11 : Hid (w11.heap.size = n + 11) := by show _ = _; rw [hw]; simp [HZ10.out]
  have HC0_11 := hid (HC0_10.out.later hb)
  have HC1_11 := hid (HC1_10.out.later hb)
  have HC2_11 := hid (HC2_10.out.later hb)
  have HC3_11 := hid (HC3_10.out.later hb)
  have HC4_11 := hid (HC4_10.out.later hb)
  have HC5_11 := hid (HC5_10.out.later hb)
  have HC6_11 := hid (HC6_10.out.later hb)
  have HC7_11 := hid (HC7_10.out.later hb)
  have HC8_11 := hid (HC8_10.out.later hb)
  have HC9_11 := hid (HC9_10.out.later hb)
  clear hw hb HB10 HZ10 HC0_10 HC1_10 HC2_10 HC3_10 HC4_10 HC5_10 HC6_10 HC7_10 HC8_10 HC9_10
  go_wp2_with fail
  refine (comparing_mk13 _ _).mono ?_
  rintro e w12 ⟨rfl, hw⟩
  rw [HZ11.out]
  have HC11_12 : Hid (Lies w12 (n + 11) 75 #[.func (.func 154) #[] #[]]) := by show Lies _ _ _ _; rw [hw, ← HZ11.out]; exact Lies.new _ _ _
  have hb : Below w11.heap.size w11 w12 := by rw [hw]; exact below_alloc _ _
  have HB12 : Hid (Below n w w12) := HB11.out.trans (hb.mono (by rw [HZ11.out]; exact Nat.le_add_right _ _))
  have HZ12 : Hid (w12.heap.size = n + 12) := by show _ = _; rw [hw]; simp [HZ11.out]
  have HC0_12 := hid (HC0_11.out.later hb)
  have HC1_12 := hid (HC1_11.out.later hb)
  have HC2_12 := hid (HC2_11.out.later hb)
  have HC3_12 := hid (HC3_11.out.later hb)
  have HC4_12 := hid (HC4_11.out.later hb)
  have HC5_12 := hid (HC5_11.out.later hb)
  have HC6_12 := hid (HC6_11.out.later hb)
  have HC7_12 := hid (HC7_11.out.later hb)
  have HC8_12 := hid (HC8_11.out.later hb)
  have HC9_12 := hid (HC9_11.out.later hb)
  have HC10_12 := hid (HC10_11.out.later hb)
  clear hw hb HB11 HZ11 HC0_11 HC1_11 HC2_11 HC3_11 HC4_11 HC5_11 HC6_11 HC7_11 HC8_11 HC9_11 HC10_11
  go_wp2_with fail
  refine (instanceof_mk13 _ _).mono ?_
  rintro e w13 ⟨rfl, hw⟩
  rw [HZ12.out]
  have HC12_13 : Hid (Lies w13 (n + 12) 3 #[.int .i64 1]) := by show Lies _ _ _ _; rw [hw, ← HZ12.out]; exact Lies.new _ _ _
  have hb : Below w12.heap.size w12 w13 := by rw [hw]; exact below_alloc _ _
  have HB13 : Hid (Below n w w13) := HB12.out.trans (hb.mono (by rw [HZ12.out]; exact Nat.le_add_right _ _))
  have HZ13 : Hid (w13.heap.size = n + 13) := by show _ = _; rw [hw]; simp [HZ12.out]
  have HC0_13 := hid (HC0_12.out.later hb)
  have HC1_13 := hid (HC1_12.out.later hb)
  have HC2_13 := hid (HC2_12.out.later hb)
  have HC3_13 := hid (HC3_12.out.later hb)
  have HC4_13 := hid (HC4_12.out.later hb)
  have HC5_13 := hid (HC5_12.out.later hb)
  have HC6_13 := hid (HC6_12.out.later hb)
  have HC7_13 := hid (HC7_12.out.later hb)
  have HC8_13 := hid (HC8_12.out.later hb)
  have HC9_13 := hid (HC9_12.out.later hb)
  have HC10_13 := hid (HC10_12.out.later hb)
  have HC11_13 := hid (HC11_12.out.later hb)
  clear hw hb HB12 HZ12 HC0_12 HC1_12 HC2_12 HC3_12 HC4_12 HC5_12 HC6_12 HC7_12 HC8_12 HC9_12 HC10_12 HC11_12
  go_wp2_with fail
  go_ret
  refine ⟨by show Ending.returned (.slice (some ⟨w13.heap.size, 0, none⟩) 28 28) = _; rw [HZ13.out], HB13.out.trans ((below_alloc w13 _).mono (by rw [HZ13.out]; exact Nat.le_add_right _ _)), fun k v hk => ?_, fun k v hk => ?_⟩
  · have hk13 : k < 13 := (List.getElem?_eq_some_iff.1 hk).1
    obtain rfl | rfl | rfl | rfl | rfl | rfl | rfl | rfl | rfl | rfl | rfl | rfl | rfl : k = 0 ∨ k = 1 ∨ k = 2 ∨ k = 3 ∨ k = 4 ∨ k = 5 ∨ k = 6 ∨ k = 7 ∨ k = 8 ∨ k = 9 ∨ k = 10 ∨ k = 11 ∨ k = 12 := by omega
    · cases hk; exact (HC0_13.out.alloc _).cell 0
    · cases hk; exact (HC1_13.out.alloc _).cell 0
    · cases hk; exact (HC2_13.out.alloc _).cell 0
    · cases hk; exact (HC3_13.out.alloc _).cell 0
    · cases hk; exact (HC4_13.out.alloc _).cell 0
    · cases hk; exact (HC5_13.out.alloc _).cell 0
    · cases hk; exact (HC6_13.out.alloc _).cell 0
    · cases hk; exact (HC7_13.out.alloc _).cell 0
    · cases hk; exact (HC8_13.out.alloc _).cell 0
    · cases hk; exact (HC9_13.out.alloc _).cell 0
    · cases hk; exact (HC10_13.out.alloc _).cell 0
    · cases hk; exact (HC11_13.out.alloc _).cell 0
    · cases hk; exact (HC12_13.out.alloc _).cell 0
  · rw [← HZ13.out]
    have := (Lies.new w13 69 (tb13 n).toArray).cell k
    rw [List.getElem?_toArray, hk] at this
    exact this
end Go.Proofs.YtnilempeldlieaaGreat
namespace Go.Proofs.YtnilempeldlieaaGreat
open Go.RowKit Flt
set_option maxRecDepth 100000
theorem numbered_no13 (num : Int) (hn : num < 1 ∨ 27 < num) (w : World) : Calls Tryz.prog 47 #[.int .i64 num] w fun e w' => e = .returned (.tuple #[.agg #[.int .i64 0, .nilFunc], .bool false]) ∧ Below w.heap.size w w' := by
  obtain ⟨w0, hw0⟩ : ∃ w0, w0 = w.alloc (.cells #[.int .i64 0, .nilFunc] 69) := ⟨_, rfl⟩
  have HB0 : Hid (Below w.heap.size w w0) := by show Below _ _ _; rw [hw0]; exact below_alloc _ _
  have HK0 : Hid (Lies w0 w.heap.size 69 #[.int .i64 0, .nilFunc]) := by show Lies _ _ _ _; rw [hw0]; exact Lies.new _ _ _
  have HS0 : Hid (w0.heap.size = w.heap.size + 1) := by show _ = _; rw [hw0]; simp
  go_enter Tryz.func47, Tryz.ntmps47
  go_upto_region 1 with fail
  rw [← hw0]
  clear hw0
  go_wp2_with fail
  refine (table_any13 _).mono ?_
  rintro e w1 ⟨rfl, hb, hkv, htb⟩
  have HB1 := hid (then_w HB0.out hb)
  have HK1 := hid (HK0.out.later hb)
  have HKV := hid hkv
  have HTB := hid htb
  clear hb hkv htb
  obtain ⟨k0, k1⟩ := HK1.out.c2
  obtain ⟨f0, f1⟩ := HK1.out.f2
  obtain ⟨V, hV⟩ : ∃ V, V = (w1.setCell ⟨w.heap.size, 0, none⟩ (.int .i64 0)).setCell ⟨w.heap.size, 1, none⟩ .nilFunc := ⟨_, rfl⟩
  have KF : Hid (Lies V w.heap.size 69 #[.int .i64 0, .nilFunc]) := by show Lies _ _ _ _; rw [hV]; exact (HK1.out.set_ 0 (.int .i64 0)).set_ 1 .nilFunc
  have BF : Hid (Below w.heap.size w V) := by show Below _ _ _; rw [hV]; exact (HB1.out.setCell (p := ⟨w.heap.size, 0, none⟩) (Nat.le_refl _) (.int .i64 0)).setCell (p := ⟨w.heap.size, 1, none⟩) (Nat.le_refl _) .nilFunc
  have HV := hid hV
  clear hV
  have hor : (decide (num < 1) || decide (28 ≤ num)) = true := by
    rcases hn with h | h
    · simp [h]
    · simp [show (28 : Int) ≤ num by omega]
  by_cases h1 : num < 1
  · go_wp2_with fail
    rw [← HV.out]
    obtain ⟨r0, r1⟩ := KF.out.c2
    refine bodyPost_ret (v := .tuple #[.agg #[.int .i64 0, .nilFunc], .bool false]) (by simp [results, Tryz.results47, go_sem, r0, r1]) rfl ?_
    exact ⟨rfl, BF.out⟩
  · have h3 : (28 : Int) ≤ num := by omega
    go_wp2_with fail
    rw [← HV.out]
    obtain ⟨r0, r1⟩ := KF.out.c2
    refine bodyPost_ret (v := .tuple #[.agg #[.int .i64 0, .nilFunc], .bool false]) (by simp [results, Tryz.results47, go_sem, r0, r1]) rfl ?_
    exact ⟨rfl, BF.out⟩
theorem numbered_ok13 (k : Nat) (h1 : 1 ≤ k) (h27 : k ≤ 27) (na : Int) (K : Nat) (cap : Array Value) (w : World) (ha : (tb13 (w.heap.size + 1))[2 * k]? = some (.int .i64 na)) (hf : (tb13 (w.heap.size + 1))[2 * k + 1]? = some (.func (.func K) #[] cap)) :
    Calls Tryz.prog 47 #[.int .i64 (k : Int)] w fun e w' => e = .returned (.tuple #[.agg #[.int .i64 na, .func (.func K) #[] cap], .bool true]) ∧ Below w.heap.size w w' ∧ ∀ (j : Nat) (v : Value), kv13[j]? = some v → w'.cell? ⟨w.heap.size + 1 + j, 0, none⟩ = some v := by
  obtain ⟨w0, hw0⟩ : ∃ w0, w0 = w.alloc (.cells #[.int .i64 0, .nilFunc] 69) := ⟨_, rfl⟩
  have HB0 : Hid (Below w.heap.size w w0) := by show Below _ _ _; rw [hw0]; exact below_alloc _ _
  have HK0 : Hid (Lies w0 w.heap.size 69 #[.int .i64 0, .nilFunc]) := by show Lies _ _ _ _; rw [hw0]; exact Lies.new _ _ _
  have HS0 : Hid (w0.heap.size = w.heap.size + 1) := by show _ = _; rw [hw0]; simp
  go_enter Tryz.func47, Tryz.ntmps47
  go_upto_region 1 with fail
  rw [← hw0]
  clear hw0
  go_wp2_with fail
  refine (table_any13 _).mono ?_
  rintro e w1 ⟨rfl, hb, hkv, htb⟩
  have HB1 := hid (then_w HB0.out hb)
  have HK1 := hid (HK0.out.later hb)
  have HKV := hid hkv
  have HTB := hid htb
  clear hb hkv htb
  rw [HS0.out] at HKV HTB
  have q0 := HTB.out _ _ ha
  have q1 := HTB.out _ _ hf
  rw [HS0.out]
  have h1I : ¬ (k : Int) < 1 := by omega
  have h2I : ¬ (28 : Int) ≤ (k : Int) := by omega
  have h3I : (k : Int) < 28 := by omega
  have h4I : (0 : Int) ≤ (k : Int) := by omega
  obtain ⟨k0, k1⟩ := HK1.out.c2
  obtain ⟨f0, f1⟩ := HK1.out.f2
  rw [Nat.mul_comm 2 k] at q0 q1
  obtain ⟨V, hV⟩ : ∃ V, V = (w1.setCell ⟨w.heap.size, 0, none⟩ (.int .i64 na)).setCell ⟨w.heap.size, 1, none⟩ (.func (.func K) #[] cap) := ⟨_, rfl⟩
  have KF : Hid (Lies V w.heap.size 69 #[.int .i64 na, .func (.func K) #[] cap]) := by show Lies _ _ _ _; rw [hV]; exact (HK1.out.set_ 0 (.int .i64 na)).set_ 1 (.func (.func K) #[] cap)
  have BF : Hid (Below w.heap.size w V) := by show Below _ _ _; rw [hV]; exact (HB1.out.setCell (p := ⟨w.heap.size, 0, none⟩) (Nat.le_refl _) (.int .i64 na)).setCell (p := ⟨w.heap.size, 1, none⟩) (Nat.le_refl _) (.func (.func K) #[] cap)
  have CF : Hid (∀ (j : Nat) (v : Value), kv13[j]? = some v → V.cell? ⟨w.heap.size + 1 + j, 0, none⟩ = some v) := by
    show ∀ (j : Nat) (v : Value), _
    intro j v hv
    rw [hV]
    exact cell_far (by omega) (cell_far (by omega) (HKV.out j v hv))
  have HV := hid hV
  clear hV
  go_wp2_with fail
  rw [← HV.out]
  obtain ⟨r0, r1⟩ := KF.out.c2
  refine bodyPost_ret (v := .tuple #[.agg #[.int .i64 na, .func (.func K) #[] cap], .bool true]) (by simp [results, Tryz.results47, go_sem, r0, r1]) rfl ?_
  exact ⟨rfl, BF.out, CF.out⟩
end Go.Proofs.YtnilempeldlieaaGreat
