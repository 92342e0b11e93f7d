/-
  No cell of these rows narrows 'for every input' (looked for: loops, veiled, ifaces, maps, wideKeys, modest, calm, conditions, laid).
  DERIVED. THE GIVEN ROWS OF THIS SEAT. 12 by the template 'for every input the law returns true; each argument reads behind the call as it read before'; 0 by the template 'total and deterministic' (their statements: YtjpibkcbgogfoaaTotals.lean).
  GIVEN WITH THE SEED: the statements are not yours to turn. If you find one false, say at which input.
  Laid BY PROGRAM, IN A SANDBOX (cutbox-rows.mjs): the forced cells as the released guide's own fill.sh prints them over the translation 3bc6622f8ad40a66… (all of the seat's roots in one cut). By AI agents, Wed Nov 11 2026. No macro, syntax, notation, axiom, sorry.
-/
import Derived.Test.YtjpibkcbgogfoaaChecked
import GoSem.Claim
import GoSem.ClaimJoined
import GoSem.ClaimMapViews
import Derived.JoinedTies
import Derived.KernelRfl
namespace Go.Proofs.Ytjpibkcbgogfoaa
/- THE CELL 'sum', in the pinned program and in every row, IS THE sha256 OF THE DUMP (.gsa) THAT YtjpibkcbgogfoaaProg.lean LOADS. Nothing in Lean hashes anything: it is a label: what it is worth is what the hold of that sum in a sandbox is worth. -/
noncomputable def Try.pinned : Pinned := { name := "ytjpibkcbgogfoaa", sum := "3bc6622f8ad40a6686a32cb67b572ad86debfe6249f7c65b80e6d86f9c0bb556", checked := Try.checked }
namespace Rows
def none {H : Type} : Left H := { results := [], args := [] }

/-- 'anamnesislaw03.HeapTells': WHATEVER THE INPUT: true; the input reads as it did. -/
def heapTellsSpec : ChangeSpec := { name := "heapTells", fn := fun _ => fun
  | [d1, d2] => { results := [.lit (.bool true)], args := [d1, d2] }
  | _ => none }
def heapTellsRow : OpenClaim := { program := "ytjpibkcbgogfoaa", sum := "3bc6622f8ad40a6686a32cb67b572ad86debfe6249f7c65b80e6d86f9c0bb556", func := "anamnesis/anamnesislaw03.HeapTells", spec := "heapTells", inPlace := ["internal/abi.NoEscape", "internal/bytealg.MakeNoZero"], unfollowed := true, recurses := true, apart := false }
def HeapTellsSaid : Prop := heapTellsRow.holds Try.pinned (OpenSpec.ofChange heapTellsSpec)

/-- ITS FALSE NEIGHBOUR: 'it returns false'. Refute it at one input. -/
def heapTellsWrong : ChangeSpec := { name := "heapTells", fn := fun _ => fun
  | [d1, d2] => { results := [.lit (.bool false)], args := [d1, d2] }
  | _ => none }
def HeapTellsWrongFalsely : Prop := heapTellsRow.holds Try.pinned (OpenSpec.ofChange heapTellsWrong)

/-- 'anamnesislaw03.HeapAllocs': WHATEVER THE INPUT: true; the input reads as it did. -/
def heapAllocsSpec : ChangeSpec := { name := "heapAllocs", fn := fun _ => fun
  | [d1, d2] => { results := [.lit (.bool true)], args := [d1, d2] }
  | _ => none }
def heapAllocsRow : OpenClaim := { program := "ytjpibkcbgogfoaa", sum := "3bc6622f8ad40a6686a32cb67b572ad86debfe6249f7c65b80e6d86f9c0bb556", func := "anamnesis/anamnesislaw03.HeapAllocs", spec := "heapAllocs", inPlace := ["internal/abi.NoEscape", "internal/bytealg.MakeNoZero"], unfollowed := true, recurses := true, apart := false }
def HeapAllocsSaid : Prop := heapAllocsRow.holds Try.pinned (OpenSpec.ofChange heapAllocsSpec)

/-- ITS FALSE NEIGHBOUR: 'it returns false'. Refute it at one input. -/
def heapAllocsWrong : ChangeSpec := { name := "heapAllocs", fn := fun _ => fun
  | [d1, d2] => { results := [.lit (.bool false)], args := [d1, d2] }
  | _ => none }
def HeapAllocsWrongFalsely : Prop := heapAllocsRow.holds Try.pinned (OpenSpec.ofChange heapAllocsWrong)

/-- 'anamnesislaw03.HeapKeeps': WHATEVER THE INPUT: true; the input reads as it did. -/
def heapKeepsSpec : ChangeSpec := { name := "heapKeeps", fn := fun _ => fun
  | [d1, d2, d3] => { results := [.lit (.bool true)], args := [d1, d2, d3] }
  | _ => none }
def heapKeepsRow : OpenClaim := { program := "ytjpibkcbgogfoaa", sum := "3bc6622f8ad40a6686a32cb67b572ad86debfe6249f7c65b80e6d86f9c0bb556", func := "anamnesis/anamnesislaw03.HeapKeeps", spec := "heapKeeps", inPlace := ["internal/abi.NoEscape", "internal/bytealg.MakeNoZero"], unfollowed := true, recurses := true, apart := false }
def HeapKeepsSaid : Prop := heapKeepsRow.holds Try.pinned (OpenSpec.ofChange heapKeepsSpec)

/-- ITS FALSE NEIGHBOUR: 'it returns false'. Refute it at one input. -/
def heapKeepsWrong : ChangeSpec := { name := "heapKeeps", fn := fun _ => fun
  | [d1, d2, d3] => { results := [.lit (.bool false)], args := [d1, d2, d3] }
  | _ => none }
def HeapKeepsWrongFalsely : Prop := heapKeepsRow.holds Try.pinned (OpenSpec.ofChange heapKeepsWrong)

/-- 'anamnesislaw03.HeapSwaps': WHATEVER THE INPUT: true; the input reads as it did. -/
def heapSwapsSpec : ChangeSpec := { name := "heapSwaps", fn := fun _ => fun
  | [d1, d2, d3] => { results := [.lit (.bool true)], args := [d1, d2, d3] }
  | _ => none }
def heapSwapsRow : OpenClaim := { program := "ytjpibkcbgogfoaa", sum := "3bc6622f8ad40a6686a32cb67b572ad86debfe6249f7c65b80e6d86f9c0bb556", func := "anamnesis/anamnesislaw03.HeapSwaps", spec := "heapSwaps", inPlace := ["internal/abi.NoEscape", "internal/bytealg.MakeNoZero"], unfollowed := true, recurses := true, apart := false }
def HeapSwapsSaid : Prop := heapSwapsRow.holds Try.pinned (OpenSpec.ofChange heapSwapsSpec)

/-- ITS FALSE NEIGHBOUR: 'it returns false'. Refute it at one input. -/
def heapSwapsWrong : ChangeSpec := { name := "heapSwaps", fn := fun _ => fun
  | [d1, d2, d3] => { results := [.lit (.bool false)], args := [d1, d2, d3] }
  | _ => none }
def HeapSwapsWrongFalsely : Prop := heapSwapsRow.holds Try.pinned (OpenSpec.ofChange heapSwapsWrong)

/-- 'anamnesislaw03.HeapFills': WHATEVER THE INPUT: true; the input reads as it did. -/
def heapFillsSpec : ChangeSpec := { name := "heapFills", fn := fun _ => fun
  | [d1, d2, d3] => { results := [.lit (.bool true)], args := [d1, d2, d3] }
  | _ => none }
def heapFillsRow : OpenClaim := { program := "ytjpibkcbgogfoaa", sum := "3bc6622f8ad40a6686a32cb67b572ad86debfe6249f7c65b80e6d86f9c0bb556", func := "anamnesis/anamnesislaw03.HeapFills", spec := "heapFills", inPlace := ["internal/abi.NoEscape", "internal/bytealg.MakeNoZero"], unfollowed := true, recurses := true, apart := false }
def HeapFillsSaid : Prop := heapFillsRow.holds Try.pinned (OpenSpec.ofChange heapFillsSpec)

/-- ITS FALSE NEIGHBOUR: 'it returns false'. Refute it at one input. -/
def heapFillsWrong : ChangeSpec := { name := "heapFills", fn := fun _ => fun
  | [d1, d2, d3] => { results := [.lit (.bool false)], args := [d1, d2, d3] }
  | _ => none }
def HeapFillsWrongFalsely : Prop := heapFillsRow.holds Try.pinned (OpenSpec.ofChange heapFillsWrong)

/-- 'anamnesislaw03.HeapBytes': WHATEVER THE INPUT: true; the input reads as it did. -/
def heapBytesSpec : ChangeSpec := { name := "heapBytes", fn := fun _ => fun
  | [d1, d2, d3] => { results := [.lit (.bool true)], args := [d1, d2, d3] }
  | _ => none }
def heapBytesRow : OpenClaim := { program := "ytjpibkcbgogfoaa", sum := "3bc6622f8ad40a6686a32cb67b572ad86debfe6249f7c65b80e6d86f9c0bb556", func := "anamnesis/anamnesislaw03.HeapBytes", spec := "heapBytes", inPlace := ["internal/abi.NoEscape", "internal/bytealg.MakeNoZero"], unfollowed := true, recurses := true, apart := false }
def HeapBytesSaid : Prop := heapBytesRow.holds Try.pinned (OpenSpec.ofChange heapBytesSpec)

/-- ITS FALSE NEIGHBOUR: 'it returns false'. Refute it at one input. -/
def heapBytesWrong : ChangeSpec := { name := "heapBytes", fn := fun _ => fun
  | [d1, d2, d3] => { results := [.lit (.bool false)], args := [d1, d2, d3] }
  | _ => none }
def HeapBytesWrongFalsely : Prop := heapBytesRow.holds Try.pinned (OpenSpec.ofChange heapBytesWrong)

/-- 'anamnesislaw06.CanonTells': WHATEVER THE INPUT: true; the input reads as it did. -/
def canonTellsSpec : ChangeSpec := { name := "canonTells", fn := fun _ => fun
  | [d1, d2] => { results := [.lit (.bool true)], args := [d1, d2] }
  | _ => none }
def canonTellsRow : OpenClaim := { program := "ytjpibkcbgogfoaa", sum := "3bc6622f8ad40a6686a32cb67b572ad86debfe6249f7c65b80e6d86f9c0bb556", func := "anamnesis/anamnesislaw06.CanonTells", spec := "canonTells", unfollowed := true, recurses := true, apart := false }
def CanonTellsSaid : Prop := canonTellsRow.holds Try.pinned (OpenSpec.ofChange canonTellsSpec)

/-- ITS FALSE NEIGHBOUR: 'it returns false'. Refute it at one input. -/
def canonTellsWrong : ChangeSpec := { name := "canonTells", fn := fun _ => fun
  | [d1, d2] => { results := [.lit (.bool false)], args := [d1, d2] }
  | _ => none }
def CanonTellsWrongFalsely : Prop := canonTellsRow.holds Try.pinned (OpenSpec.ofChange canonTellsWrong)

/-- 'anamnesislaw06.CanonSame': WHATEVER THE INPUT: true; the input reads as it did. -/
def canonSameSpec : ChangeSpec := { name := "canonSame", fn := fun _ => fun
  | [d1, d2] => { results := [.lit (.bool true)], args := [d1, d2] }
  | _ => none }
def canonSameRow : OpenClaim := { program := "ytjpibkcbgogfoaa", sum := "3bc6622f8ad40a6686a32cb67b572ad86debfe6249f7c65b80e6d86f9c0bb556", func := "anamnesis/anamnesislaw06.CanonSame", spec := "canonSame", unfollowed := true, recurses := true, apart := false }
def CanonSameSaid : Prop := canonSameRow.holds Try.pinned (OpenSpec.ofChange canonSameSpec)

/-- ITS FALSE NEIGHBOUR: 'it returns false'. Refute it at one input. -/
def canonSameWrong : ChangeSpec := { name := "canonSame", fn := fun _ => fun
  | [d1, d2] => { results := [.lit (.bool false)], args := [d1, d2] }
  | _ => none }
def CanonSameWrongFalsely : Prop := canonSameRow.holds Try.pinned (OpenSpec.ofChange canonSameWrong)

/-- 'anamnesislaw06.CanonRenames': WHATEVER THE INPUT: true; the input reads as it did. -/
def canonRenamesSpec : ChangeSpec := { name := "canonRenames", fn := fun _ => fun
  | [d1, d2] => { results := [.lit (.bool true)], args := [d1, d2] }
  | _ => none }
def canonRenamesRow : OpenClaim := { program := "ytjpibkcbgogfoaa", sum := "3bc6622f8ad40a6686a32cb67b572ad86debfe6249f7c65b80e6d86f9c0bb556", func := "anamnesis/anamnesislaw06.CanonRenames", spec := "canonRenames", unfollowed := true, recurses := true, apart := false }
def CanonRenamesSaid : Prop := canonRenamesRow.holds Try.pinned (OpenSpec.ofChange canonRenamesSpec)

/-- ITS FALSE NEIGHBOUR: 'it returns false'. Refute it at one input. -/
def canonRenamesWrong : ChangeSpec := { name := "canonRenames", fn := fun _ => fun
  | [d1, d2] => { results := [.lit (.bool false)], args := [d1, d2] }
  | _ => none }
def CanonRenamesWrongFalsely : Prop := canonRenamesRow.holds Try.pinned (OpenSpec.ofChange canonRenamesWrong)

/-- 'anamnesislaw06.CanonLeast': WHATEVER THE INPUT: true; the input reads as it did. -/
def canonLeastSpec : ChangeSpec := { name := "canonLeast", fn := fun _ => fun
  | [d1, d2] => { results := [.lit (.bool true)], args := [d1, d2] }
  | _ => none }
def canonLeastRow : OpenClaim := { program := "ytjpibkcbgogfoaa", sum := "3bc6622f8ad40a6686a32cb67b572ad86debfe6249f7c65b80e6d86f9c0bb556", func := "anamnesis/anamnesislaw06.CanonLeast", spec := "canonLeast", unfollowed := true, recurses := true, apart := false }
def CanonLeastSaid : Prop := canonLeastRow.holds Try.pinned (OpenSpec.ofChange canonLeastSpec)

/-- ITS FALSE NEIGHBOUR: 'it returns false'. Refute it at one input. -/
def canonLeastWrong : ChangeSpec := { name := "canonLeast", fn := fun _ => fun
  | [d1, d2] => { results := [.lit (.bool false)], args := [d1, d2] }
  | _ => none }
def CanonLeastWrongFalsely : Prop := canonLeastRow.holds Try.pinned (OpenSpec.ofChange canonLeastWrong)

/-- 'anamnesislaw06.CanonEqual': WHATEVER THE INPUT: true; the input reads as it did. -/
def canonEqualSpec : ChangeSpec := { name := "canonEqual", fn := fun _ => fun
  | [d1, d2, d3] => { results := [.lit (.bool true)], args := [d1, d2, d3] }
  | _ => none }
def canonEqualRow : OpenClaim := { program := "ytjpibkcbgogfoaa", sum := "3bc6622f8ad40a6686a32cb67b572ad86debfe6249f7c65b80e6d86f9c0bb556", func := "anamnesis/anamnesislaw06.CanonEqual", spec := "canonEqual", unfollowed := true, recurses := true, apart := false }
def CanonEqualSaid : Prop := canonEqualRow.holds Try.pinned (OpenSpec.ofChange canonEqualSpec)

/-- ITS FALSE NEIGHBOUR: 'it returns false'. Refute it at one input. -/
def canonEqualWrong : ChangeSpec := { name := "canonEqual", fn := fun _ => fun
  | [d1, d2, d3] => { results := [.lit (.bool false)], args := [d1, d2, d3] }
  | _ => none }
def CanonEqualWrongFalsely : Prop := canonEqualRow.holds Try.pinned (OpenSpec.ofChange canonEqualWrong)

/-- 'anamnesislaw06.CanonRoots': WHATEVER THE INPUT: true; the input reads as it did. -/
def canonRootsSpec : ChangeSpec := { name := "canonRoots", fn := fun _ => fun
  | [d] => { results := [.lit (.bool true)], args := [d] }
  | _ => none }
def canonRootsRow : OpenClaim := { program := "ytjpibkcbgogfoaa", sum := "3bc6622f8ad40a6686a32cb67b572ad86debfe6249f7c65b80e6d86f9c0bb556", func := "anamnesis/anamnesislaw06.CanonRoots", spec := "canonRoots", unfollowed := true, recurses := true, apart := false }
def CanonRootsSaid : Prop := canonRootsRow.holds Try.pinned (OpenSpec.ofChange canonRootsSpec)

/-- ITS FALSE NEIGHBOUR: 'it returns false'. Refute it at one input. -/
def canonRootsWrong : ChangeSpec := { name := "canonRoots", fn := fun _ => fun
  | [d] => { results := [.lit (.bool false)], args := [d] }
  | _ => none }
def CanonRootsWrongFalsely : Prop := canonRootsRow.holds Try.pinned (OpenSpec.ofChange canonRootsWrong)

/- THE SECOND FORM. 'bulk': how many values and letters a reading holds, each counted each time it is reached (what is shared counts as often as it is met; a slice's spare places count too). A statement '..UptoSaid' is the law's where the arguments, and the package variables that the reading takes, are together of bulk at most 1048576: NARROWER than '..Said'. Prove '..Said' where nothing that the law and all that it calls make is longer than what came in: it says more and counts as full. Else prove '..UptoSaid'. A law counts once. -/
mutual
def uptoBulk {H : Type} : DataW H → Nat
  | .lit (.string bytes) => bytes.length + 1
  | .lit _ => 1
  | .nil => 1
  | .ptr d => uptoBulk d + 1
  | .slice elems spare => uptoBulkAll elems + uptoBulkAll spare + 1
  | .agg parts => uptoBulkAll parts + 1
  | .iface _ d => uptoBulk d + 1
  | .map entries => uptoBulkEntries entries + 1
  | .held _ => 1
def uptoBulkAll {H : Type} : List (DataW H) → Nat
  | [] => 0
  | d :: r => uptoBulk d + uptoBulkAll r
def uptoBulkEntries {H : Type} : List (Lit × DataW H) → Nat
  | [] => 0
  | x :: r => uptoBulkEntry x + uptoBulkEntries r
def uptoBulkEntry {H : Type} : Lit × DataW H → Nat
  | (.string bytes, d) => bytes.length + uptoBulk d + 1
  | (_, d) => uptoBulk d + 1
 end
def uptoSmall : (H : Type) → List (DataW H) → Bool := fun _ ds => decide (uptoBulkAll ds ≤ 1048576)
def OpenSpec.upto (s : _root_.Go.ChangeSpec) : _root_.Go.OpenSpec := { _root_.Go.OpenSpec.ofChange s with cond := some uptoSmall }

/-- 'anamnesislaw03.HeapTells', WHERE WHAT IT READS IS OF BULK AT MOST 1048576: true; the input reads as it did. -/
def heapTellsUptoRow : OpenClaim := { program := "ytjpibkcbgogfoaa", sum := "3bc6622f8ad40a6686a32cb67b572ad86debfe6249f7c65b80e6d86f9c0bb556", func := "anamnesis/anamnesislaw03.HeapTells", spec := "heapTells", inPlace := ["internal/abi.NoEscape", "internal/bytealg.MakeNoZero"], unfollowed := true, recurses := true, apart := false, narrowed := true }
def HeapTellsUptoSaid : Prop := heapTellsUptoRow.holds Try.pinned (OpenSpec.upto heapTellsSpec)

/-- 'anamnesislaw03.HeapAllocs', WHERE WHAT IT READS IS OF BULK AT MOST 1048576: true; the input reads as it did. -/
def heapAllocsUptoRow : OpenClaim := { program := "ytjpibkcbgogfoaa", sum := "3bc6622f8ad40a6686a32cb67b572ad86debfe6249f7c65b80e6d86f9c0bb556", func := "anamnesis/anamnesislaw03.HeapAllocs", spec := "heapAllocs", inPlace := ["internal/abi.NoEscape", "internal/bytealg.MakeNoZero"], unfollowed := true, recurses := true, apart := false, narrowed := true }
def HeapAllocsUptoSaid : Prop := heapAllocsUptoRow.holds Try.pinned (OpenSpec.upto heapAllocsSpec)

/-- 'anamnesislaw03.HeapKeeps', WHERE WHAT IT READS IS OF BULK AT MOST 1048576: true; the input reads as it did. -/
def heapKeepsUptoRow : OpenClaim := { program := "ytjpibkcbgogfoaa", sum := "3bc6622f8ad40a6686a32cb67b572ad86debfe6249f7c65b80e6d86f9c0bb556", func := "anamnesis/anamnesislaw03.HeapKeeps", spec := "heapKeeps", inPlace := ["internal/abi.NoEscape", "internal/bytealg.MakeNoZero"], unfollowed := true, recurses := true, apart := false, narrowed := true }
def HeapKeepsUptoSaid : Prop := heapKeepsUptoRow.holds Try.pinned (OpenSpec.upto heapKeepsSpec)

/-- 'anamnesislaw03.HeapSwaps', WHERE WHAT IT READS IS OF BULK AT MOST 1048576: true; the input reads as it did. -/
def heapSwapsUptoRow : OpenClaim := { program := "ytjpibkcbgogfoaa", sum := "3bc6622f8ad40a6686a32cb67b572ad86debfe6249f7c65b80e6d86f9c0bb556", func := "anamnesis/anamnesislaw03.HeapSwaps", spec := "heapSwaps", inPlace := ["internal/abi.NoEscape", "internal/bytealg.MakeNoZero"], unfollowed := true, recurses := true, apart := false, narrowed := true }
def HeapSwapsUptoSaid : Prop := heapSwapsUptoRow.holds Try.pinned (OpenSpec.upto heapSwapsSpec)

/-- 'anamnesislaw03.HeapFills', WHERE WHAT IT READS IS OF BULK AT MOST 1048576: true; the input reads as it did. -/
def heapFillsUptoRow : OpenClaim := { program := "ytjpibkcbgogfoaa", sum := "3bc6622f8ad40a6686a32cb67b572ad86debfe6249f7c65b80e6d86f9c0bb556", func := "anamnesis/anamnesislaw03.HeapFills", spec := "heapFills", inPlace := ["internal/abi.NoEscape", "internal/bytealg.MakeNoZero"], unfollowed := true, recurses := true, apart := false, narrowed := true }
def HeapFillsUptoSaid : Prop := heapFillsUptoRow.holds Try.pinned (OpenSpec.upto heapFillsSpec)

/-- 'anamnesislaw03.HeapBytes', WHERE WHAT IT READS IS OF BULK AT MOST 1048576: true; the input reads as it did. -/
def heapBytesUptoRow : OpenClaim := { program := "ytjpibkcbgogfoaa", sum := "3bc6622f8ad40a6686a32cb67b572ad86debfe6249f7c65b80e6d86f9c0bb556", func := "anamnesis/anamnesislaw03.HeapBytes", spec := "heapBytes", inPlace := ["internal/abi.NoEscape", "internal/bytealg.MakeNoZero"], unfollowed := true, recurses := true, apart := false, narrowed := true }
def HeapBytesUptoSaid : Prop := heapBytesUptoRow.holds Try.pinned (OpenSpec.upto heapBytesSpec)

/-- 'anamnesislaw06.CanonTells', WHERE WHAT IT READS IS OF BULK AT MOST 1048576: true; the input reads as it did. -/
def canonTellsUptoRow : OpenClaim := { program := "ytjpibkcbgogfoaa", sum := "3bc6622f8ad40a6686a32cb67b572ad86debfe6249f7c65b80e6d86f9c0bb556", func := "anamnesis/anamnesislaw06.CanonTells", spec := "canonTells", unfollowed := true, recurses := true, apart := false, narrowed := true }
def CanonTellsUptoSaid : Prop := canonTellsUptoRow.holds Try.pinned (OpenSpec.upto canonTellsSpec)

/-- 'anamnesislaw06.CanonSame', WHERE WHAT IT READS IS OF BULK AT MOST 1048576: true; the input reads as it did. -/
def canonSameUptoRow : OpenClaim := { program := "ytjpibkcbgogfoaa", sum := "3bc6622f8ad40a6686a32cb67b572ad86debfe6249f7c65b80e6d86f9c0bb556", func := "anamnesis/anamnesislaw06.CanonSame", spec := "canonSame", unfollowed := true, recurses := true, apart := false, narrowed := true }
def CanonSameUptoSaid : Prop := canonSameUptoRow.holds Try.pinned (OpenSpec.upto canonSameSpec)

/-- 'anamnesislaw06.CanonRenames', WHERE WHAT IT READS IS OF BULK AT MOST 1048576: true; the input reads as it did. -/
def canonRenamesUptoRow : OpenClaim := { program := "ytjpibkcbgogfoaa", sum := "3bc6622f8ad40a6686a32cb67b572ad86debfe6249f7c65b80e6d86f9c0bb556", func := "anamnesis/anamnesislaw06.CanonRenames", spec := "canonRenames", unfollowed := true, recurses := true, apart := false, narrowed := true }
def CanonRenamesUptoSaid : Prop := canonRenamesUptoRow.holds Try.pinned (OpenSpec.upto canonRenamesSpec)

/-- 'anamnesislaw06.CanonLeast', WHERE WHAT IT READS IS OF BULK AT MOST 1048576: true; the input reads as it did. -/
def canonLeastUptoRow : OpenClaim := { program := "ytjpibkcbgogfoaa", sum := "3bc6622f8ad40a6686a32cb67b572ad86debfe6249f7c65b80e6d86f9c0bb556", func := "anamnesis/anamnesislaw06.CanonLeast", spec := "canonLeast", unfollowed := true, recurses := true, apart := false, narrowed := true }
def CanonLeastUptoSaid : Prop := canonLeastUptoRow.holds Try.pinned (OpenSpec.upto canonLeastSpec)

/-- 'anamnesislaw06.CanonEqual', WHERE WHAT IT READS IS OF BULK AT MOST 1048576: true; the input reads as it did. -/
def canonEqualUptoRow : OpenClaim := { program := "ytjpibkcbgogfoaa", sum := "3bc6622f8ad40a6686a32cb67b572ad86debfe6249f7c65b80e6d86f9c0bb556", func := "anamnesis/anamnesislaw06.CanonEqual", spec := "canonEqual", unfollowed := true, recurses := true, apart := false, narrowed := true }
def CanonEqualUptoSaid : Prop := canonEqualUptoRow.holds Try.pinned (OpenSpec.upto canonEqualSpec)

/-- 'anamnesislaw06.CanonRoots', WHERE WHAT IT READS IS OF BULK AT MOST 1048576: true; the input reads as it did. -/
def canonRootsUptoRow : OpenClaim := { program := "ytjpibkcbgogfoaa", sum := "3bc6622f8ad40a6686a32cb67b572ad86debfe6249f7c65b80e6d86f9c0bb556", func := "anamnesis/anamnesislaw06.CanonRoots", spec := "canonRoots", unfollowed := true, recurses := true, apart := false, narrowed := true }
def CanonRootsUptoSaid : Prop := canonRootsUptoRow.holds Try.pinned (OpenSpec.upto canonRootsSpec)

end Rows
end Go.Proofs.Ytjpibkcbgogfoaa
