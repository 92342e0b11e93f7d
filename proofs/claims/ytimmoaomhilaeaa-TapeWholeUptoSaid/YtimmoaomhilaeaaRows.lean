/-
  No cell of these rows narrows 'for every input' (looked for: loops, veiled, ifaces, maps, wideKeys, modest, calm, conditions, laid).
  DERIVED. THE GIVEN ROWS OF THIS SEAT. 4 by the template 'for every input the law returns true; each argument reads behind the call as it read before'; 0 by the template 'total and deterministic' (their statements: YtimmoaomhilaeaaTotals.lean).
  GIVEN WITH THE SEED: the statements are not yours to turn. If you find one false, say at which input.
  Laid BY PROGRAM, IN A SANDBOX (cutbox-rows.mjs): the forced cells as the released guide's own fill.sh prints them over the translation 929ca6b7f078b3e6… (all of the seat's roots in one cut). By AI agents, Wed Nov 11 2026. No macro, syntax, notation, axiom, sorry.
-/
import Derived.Test.YtimmoaomhilaeaaChecked
import GoSem.Claim
import GoSem.ClaimJoined
import GoSem.ClaimMapViews
import Derived.JoinedTies
import Derived.KernelRfl
namespace Go.Proofs.Ytimmoaomhilaeaa
/- THE CELL 'sum', in the pinned program and in every row, IS THE sha256 OF THE DUMP (.gsa) THAT YtimmoaomhilaeaaProg.lean LOADS. Nothing in Lean hashes anything: it is a label: what it is worth is what the hold of that sum in a sandbox is worth. -/
noncomputable def Try.pinned : Pinned := { name := "ytimmoaomhilaeaa", sum := "929ca6b7f078b3e6cd005c3fd459c13b8a2ec131df389d25ddadd3fad6cf0ba2", checked := Try.checked }
namespace Rows
def none {H : Type} : Left H := { results := [], args := [] }

/-- 'anamnesislaw16.TapeTells': WHATEVER THE INPUT: true; the input reads as it did. -/
def tapeTellsSpec : ChangeSpec := { name := "tapeTells", fn := fun _ => fun
  | [d1, d2] => { results := [.lit (.bool true)], args := [d1, d2] }
  | _ => none }
def tapeTellsRow : OpenClaim := { program := "ytimmoaomhilaeaa", sum := "929ca6b7f078b3e6cd005c3fd459c13b8a2ec131df389d25ddadd3fad6cf0ba2", func := "anamnesis/anamnesislaw16.TapeTells", spec := "tapeTells", unfollowed := true, recurses := true, apart := false }
def TapeTellsSaid : Prop := tapeTellsRow.holds Try.pinned (OpenSpec.ofChange tapeTellsSpec)

/-- ITS FALSE NEIGHBOUR: 'it returns false'. Refute it at one input. -/
def tapeTellsWrong : ChangeSpec := { name := "tapeTells", fn := fun _ => fun
  | [d1, d2] => { results := [.lit (.bool false)], args := [d1, d2] }
  | _ => none }
def TapeTellsWrongFalsely : Prop := tapeTellsRow.holds Try.pinned (OpenSpec.ofChange tapeTellsWrong)

/-- 'anamnesislaw16.TapeAgain': WHATEVER THE INPUT: true; the input reads as it did. -/
def tapeAgainSpec : ChangeSpec := { name := "tapeAgain", fn := fun _ => fun
  | [d1, d2] => { results := [.lit (.bool true)], args := [d1, d2] }
  | _ => none }
def tapeAgainRow : OpenClaim := { program := "ytimmoaomhilaeaa", sum := "929ca6b7f078b3e6cd005c3fd459c13b8a2ec131df389d25ddadd3fad6cf0ba2", func := "anamnesis/anamnesislaw16.TapeAgain", spec := "tapeAgain", unfollowed := true, recurses := true, apart := false }
def TapeAgainSaid : Prop := tapeAgainRow.holds Try.pinned (OpenSpec.ofChange tapeAgainSpec)

/-- ITS FALSE NEIGHBOUR: 'it returns false'. Refute it at one input. -/
def tapeAgainWrong : ChangeSpec := { name := "tapeAgain", fn := fun _ => fun
  | [d1, d2] => { results := [.lit (.bool false)], args := [d1, d2] }
  | _ => none }
def TapeAgainWrongFalsely : Prop := tapeAgainRow.holds Try.pinned (OpenSpec.ofChange tapeAgainWrong)

/-- 'anamnesislaw16.TapeDiverges': WHATEVER THE INPUT: true; the input reads as it did. -/
def tapeDivergesSpec : ChangeSpec := { name := "tapeDiverges", fn := fun _ => fun
  | [d1, d2] => { results := [.lit (.bool true)], args := [d1, d2] }
  | _ => none }
def tapeDivergesRow : OpenClaim := { program := "ytimmoaomhilaeaa", sum := "929ca6b7f078b3e6cd005c3fd459c13b8a2ec131df389d25ddadd3fad6cf0ba2", func := "anamnesis/anamnesislaw16.TapeDiverges", spec := "tapeDiverges", unfollowed := true, recurses := true, apart := false }
def TapeDivergesSaid : Prop := tapeDivergesRow.holds Try.pinned (OpenSpec.ofChange tapeDivergesSpec)

/-- ITS FALSE NEIGHBOUR: 'it returns false'. Refute it at one input. -/
def tapeDivergesWrong : ChangeSpec := { name := "tapeDiverges", fn := fun _ => fun
  | [d1, d2] => { results := [.lit (.bool false)], args := [d1, d2] }
  | _ => none }
def TapeDivergesWrongFalsely : Prop := tapeDivergesRow.holds Try.pinned (OpenSpec.ofChange tapeDivergesWrong)

/-- 'anamnesislaw16.TapeWhole': WHATEVER THE INPUT: true; the input reads as it did. -/
def tapeWholeSpec : ChangeSpec := { name := "tapeWhole", fn := fun _ => fun
  | [d1, d2] => { results := [.lit (.bool true)], args := [d1, d2] }
  | _ => none }
def tapeWholeRow : OpenClaim := { program := "ytimmoaomhilaeaa", sum := "929ca6b7f078b3e6cd005c3fd459c13b8a2ec131df389d25ddadd3fad6cf0ba2", func := "anamnesis/anamnesislaw16.TapeWhole", spec := "tapeWhole", unfollowed := true, recurses := true, apart := false }
def TapeWholeSaid : Prop := tapeWholeRow.holds Try.pinned (OpenSpec.ofChange tapeWholeSpec)

/-- ITS FALSE NEIGHBOUR: 'it returns false'. Refute it at one input. -/
def tapeWholeWrong : ChangeSpec := { name := "tapeWhole", fn := fun _ => fun
  | [d1, d2] => { results := [.lit (.bool false)], args := [d1, d2] }
  | _ => none }
def TapeWholeWrongFalsely : Prop := tapeWholeRow.holds Try.pinned (OpenSpec.ofChange tapeWholeWrong)

/- THE SECOND FORM. 'bulk': how many values and letters a reading holds, each counted each time it is reached (what is shared counts as often as it is met; a slice's spare places count too). A statement '..UptoSaid' is the law's where the arguments, and the package variables that the reading takes, are together of bulk at most 1048576: NARROWER than '..Said'. Prove '..Said' where nothing that the law and all that it calls make is longer than what came in: it says more and counts as full. Else prove '..UptoSaid'. A law counts once. -/
mutual
def uptoBulk {H : Type} : DataW H → Nat
  | .lit (.string bytes) => bytes.length + 1
  | .lit _ => 1
  | .nil => 1
  | .ptr d => uptoBulk d + 1
  | .slice elems spare => uptoBulkAll elems + uptoBulkAll spare + 1
  | .agg parts => uptoBulkAll parts + 1
  | .iface _ d => uptoBulk d + 1
  | .map entries => uptoBulkEntries entries + 1
  | .held _ => 1
def uptoBulkAll {H : Type} : List (DataW H) → Nat
  | [] => 0
  | d :: r => uptoBulk d + uptoBulkAll r
def uptoBulkEntries {H : Type} : List (Lit × DataW H) → Nat
  | [] => 0
  | x :: r => uptoBulkEntry x + uptoBulkEntries r
def uptoBulkEntry {H : Type} : Lit × DataW H → Nat
  | (.string bytes, d) => bytes.length + uptoBulk d + 1
  | (_, d) => uptoBulk d + 1
 end
def uptoSmall : (H : Type) → List (DataW H) → Bool := fun _ ds => decide (uptoBulkAll ds ≤ 1048576)
def OpenSpec.upto (s : _root_.Go.ChangeSpec) : _root_.Go.OpenSpec := { _root_.Go.OpenSpec.ofChange s with cond := some uptoSmall }

/-- 'anamnesislaw16.TapeTells', WHERE WHAT IT READS IS OF BULK AT MOST 1048576: true; the input reads as it did. -/
def tapeTellsUptoRow : OpenClaim := { program := "ytimmoaomhilaeaa", sum := "929ca6b7f078b3e6cd005c3fd459c13b8a2ec131df389d25ddadd3fad6cf0ba2", func := "anamnesis/anamnesislaw16.TapeTells", spec := "tapeTells", unfollowed := true, recurses := true, apart := false, narrowed := true }
def TapeTellsUptoSaid : Prop := tapeTellsUptoRow.holds Try.pinned (OpenSpec.upto tapeTellsSpec)

/-- 'anamnesislaw16.TapeAgain', WHERE WHAT IT READS IS OF BULK AT MOST 1048576: true; the input reads as it did. -/
def tapeAgainUptoRow : OpenClaim := { program := "ytimmoaomhilaeaa", sum := "929ca6b7f078b3e6cd005c3fd459c13b8a2ec131df389d25ddadd3fad6cf0ba2", func := "anamnesis/anamnesislaw16.TapeAgain", spec := "tapeAgain", unfollowed := true, recurses := true, apart := false, narrowed := true }
def TapeAgainUptoSaid : Prop := tapeAgainUptoRow.holds Try.pinned (OpenSpec.upto tapeAgainSpec)

/-- 'anamnesislaw16.TapeDiverges', WHERE WHAT IT READS IS OF BULK AT MOST 1048576: true; the input reads as it did. -/
def tapeDivergesUptoRow : OpenClaim := { program := "ytimmoaomhilaeaa", sum := "929ca6b7f078b3e6cd005c3fd459c13b8a2ec131df389d25ddadd3fad6cf0ba2", func := "anamnesis/anamnesislaw16.TapeDiverges", spec := "tapeDiverges", unfollowed := true, recurses := true, apart := false, narrowed := true }
def TapeDivergesUptoSaid : Prop := tapeDivergesUptoRow.holds Try.pinned (OpenSpec.upto tapeDivergesSpec)

/-- 'anamnesislaw16.TapeWhole', WHERE WHAT IT READS IS OF BULK AT MOST 1048576: true; the input reads as it did. -/
def tapeWholeUptoRow : OpenClaim := { program := "ytimmoaomhilaeaa", sum := "929ca6b7f078b3e6cd005c3fd459c13b8a2ec131df389d25ddadd3fad6cf0ba2", func := "anamnesis/anamnesislaw16.TapeWhole", spec := "tapeWhole", unfollowed := true, recurses := true, apart := false, narrowed := true }
def TapeWholeUptoSaid : Prop := tapeWholeUptoRow.holds Try.pinned (OpenSpec.upto tapeWholeSpec)

end Rows
end Go.Proofs.Ytimmoaomhilaeaa
