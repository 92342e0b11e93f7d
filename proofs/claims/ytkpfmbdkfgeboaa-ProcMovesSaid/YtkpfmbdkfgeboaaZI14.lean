/- The library's contracts of slices.Insert at []int, of this program: one application each. -/
import Derived.Shelf.Spec.SlicesInsertGrow
import Derived.Test.YtkpfmbdkfgeboaaRows
namespace Go.Proofs.Ytkpfmbdkfgeboaa
open Go.Shelf Go.RowKit
def ren14 : Go.Shelf.Ren := ⟨fun | 21 => 52 | 27 => 71 | 28 => 72 | 35 => 83 | 39 => 87 | n => n, fun | 22 => 27 | n => n, fun | n => n⟩
theorem lays14 : Go.Proofs.Lays2.n21 Try.prog ren14 := {
  mixed := by kernel_rfl
  f21 := Try.func52.trans (congrArg some (by kernel_rfl))
  f27 := Try.func71.trans (congrArg some (by kernel_rfl))
  f28 := Try.func72.trans (congrArg some (by kernel_rfl))
  f35 := Try.func83.trans (congrArg some (by kernel_rfl))
  f39 := Try.func87.trans (congrArg some (by kernel_rfl))
  t0 := Try.underlying0
  a0 := Try.isAgg0
  z0 := Try.sizeOf0
  v0 := Try.zeroValue0
  t3 := Try.underlying3
  a3 := Try.isAgg3
  z3 := Try.sizeOf3
  v3 := Try.zeroValue3
  t4 := Try.underlying4
  a4 := Try.isAgg4
  z4 := Try.sizeOf4
  v4 := Try.zeroValue4
  t22 := Try.underlying27
  a22 := Try.isAgg27
  z22 := Try.sizeOf27
  v22 := Try.zeroValue27
  i3 := by kernel_rfl }
end Go.Proofs.Ytkpfmbdkfgeboaa
