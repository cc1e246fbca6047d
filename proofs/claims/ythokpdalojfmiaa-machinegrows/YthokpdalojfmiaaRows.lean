/-
  No cell of these rows narrows 'for every input' (looked for: loops, veiled, ifaces, maps, wideKeys, modest, calm, conditions, laid).
  DERIVED. THE GIVEN ROWS OF THIS SEAT. 3 by the template 'for every input the law returns true; each argument reads behind the call as it read before'; 0 by the template 'total and deterministic' (their statements: YthokpdalojfmiaaTotals.lean).
  GIVEN WITH THE SEED: the statements are not yours to turn. If you find one false, say at which input.
  Laid BY PROGRAM, IN A SANDBOX (cutbox-rows.mjs): the forced cells as the released guide's own fill.sh prints them over the translation b117c2d7ce30a415… (all of the seat's roots in one cut). By AI agents, Wed Nov 11 2026. No macro, syntax, notation, axiom, sorry.
-/
import Derived.Test.YthokpdalojfmiaaChecked
import GoSem.Claim
import GoSem.ClaimJoined
import GoSem.ClaimMapViews
import Derived.JoinedTies
import Derived.KernelRfl
namespace Go.Proofs.Ythokpdalojfmiaa
/- THE CELL 'sum', in the pinned program and in every row, IS THE sha256 OF THE DUMP (.gsa) THAT YthokpdalojfmiaaProg.lean LOADS. Nothing in Lean hashes anything: it is a label: what it is worth is what the hold of that sum in a sandbox is worth. -/
noncomputable def Try.pinned : Pinned := { name := "ythokpdalojfmiaa", sum := "b117c2d7ce30a415c6b862e6f42b15ce0cc8be0ad6dfdd81d18202a16f6bfd30", checked := Try.checked }
namespace Rows
def none {H : Type} : Left H := { results := [], args := [] }

/-- 'swagelaw04.MachineParts': WHATEVER THE INPUT: true; the input reads as it did. -/
def machinePartsSpec : ChangeSpec := { name := "machineParts", fn := fun _ => fun
  | [d1, d2, d3, d4, d5] => { results := [.lit (.bool true)], args := [d1, d2, d3, d4, d5] }
  | _ => none }
def machinePartsRow : OpenClaim := { program := "ythokpdalojfmiaa", sum := "b117c2d7ce30a415c6b862e6f42b15ce0cc8be0ad6dfdd81d18202a16f6bfd30", func := "swage/swagelaw04.MachineParts", spec := "machineParts", unfollowed := true, recurses := true, apart := false }
def MachinePartsSaid : Prop := machinePartsRow.holds Try.pinned (OpenSpec.ofChange machinePartsSpec)

/-- ITS FALSE NEIGHBOUR: 'it returns false'. Refute it at one input. -/
def machinePartsWrong : ChangeSpec := { name := "machineParts", fn := fun _ => fun
  | [d1, d2, d3, d4, d5] => { results := [.lit (.bool false)], args := [d1, d2, d3, d4, d5] }
  | _ => none }
def MachinePartsWrongFalsely : Prop := machinePartsRow.holds Try.pinned (OpenSpec.ofChange machinePartsWrong)

/-- 'swagelaw04.MachineGrows': WHATEVER THE INPUT: true; the input reads as it did. -/
def machineGrowsSpec : ChangeSpec := { name := "machineGrows", fn := fun _ => fun
  | [d1, d2, d3, d4, d5] => { results := [.lit (.bool true)], args := [d1, d2, d3, d4, d5] }
  | _ => none }
def machineGrowsRow : OpenClaim := { program := "ythokpdalojfmiaa", sum := "b117c2d7ce30a415c6b862e6f42b15ce0cc8be0ad6dfdd81d18202a16f6bfd30", func := "swage/swagelaw04.MachineGrows", spec := "machineGrows", unfollowed := true, recurses := true, apart := false }
def MachineGrowsSaid : Prop := machineGrowsRow.holds Try.pinned (OpenSpec.ofChange machineGrowsSpec)

/-- ITS FALSE NEIGHBOUR: 'it returns false'. Refute it at one input. -/
def machineGrowsWrong : ChangeSpec := { name := "machineGrows", fn := fun _ => fun
  | [d1, d2, d3, d4, d5] => { results := [.lit (.bool false)], args := [d1, d2, d3, d4, d5] }
  | _ => none }
def MachineGrowsWrongFalsely : Prop := machineGrowsRow.holds Try.pinned (OpenSpec.ofChange machineGrowsWrong)

/-- 'swagelaw04.MachineReckons': WHATEVER THE INPUT: true; the input reads as it did. -/
def machineReckonsSpec : ChangeSpec := { name := "machineReckons", fn := fun _ => fun
  | [d1, d2, d3] => { results := [.lit (.bool true)], args := [d1, d2, d3] }
  | _ => none }
def machineReckonsRow : OpenClaim := { program := "ythokpdalojfmiaa", sum := "b117c2d7ce30a415c6b862e6f42b15ce0cc8be0ad6dfdd81d18202a16f6bfd30", func := "swage/swagelaw04.MachineReckons", spec := "machineReckons", unfollowed := true, recurses := true, apart := false }
def MachineReckonsSaid : Prop := machineReckonsRow.holds Try.pinned (OpenSpec.ofChange machineReckonsSpec)

/-- ITS FALSE NEIGHBOUR: 'it returns false'. Refute it at one input. -/
def machineReckonsWrong : ChangeSpec := { name := "machineReckons", fn := fun _ => fun
  | [d1, d2, d3] => { results := [.lit (.bool false)], args := [d1, d2, d3] }
  | _ => none }
def MachineReckonsWrongFalsely : Prop := machineReckonsRow.holds Try.pinned (OpenSpec.ofChange machineReckonsWrong)

/- THE SECOND FORM. 'bulk': how many values and letters a reading holds, each counted each time it is reached (what is shared counts as often as it is met; a slice's spare places count too). A statement '..UptoSaid' is the law's where the arguments, and the package variables that the reading takes, are together of bulk at most 1048576: NARROWER than '..Said'. Prove '..Said' where nothing that the law and all that it calls make is longer than what came in: it says more and counts as full. Else prove '..UptoSaid'. A law counts once. -/
mutual
def uptoBulk {H : Type} : DataW H → Nat
  | .lit (.string bytes) => bytes.length + 1
  | .lit _ => 1
  | .nil => 1
  | .ptr d => uptoBulk d + 1
  | .slice elems spare => uptoBulkAll elems + uptoBulkAll spare + 1
  | .agg parts => uptoBulkAll parts + 1
  | .iface _ d => uptoBulk d + 1
  | .map entries => uptoBulkEntries entries + 1
  | .held _ => 1
def uptoBulkAll {H : Type} : List (DataW H) → Nat
  | [] => 0
  | d :: r => uptoBulk d + uptoBulkAll r
def uptoBulkEntries {H : Type} : List (Lit × DataW H) → Nat
  | [] => 0
  | x :: r => uptoBulkEntry x + uptoBulkEntries r
def uptoBulkEntry {H : Type} : Lit × DataW H → Nat
  | (.string bytes, d) => bytes.length + uptoBulk d + 1
  | (_, d) => uptoBulk d + 1
 end
def uptoSmall : (H : Type) → List (DataW H) → Bool := fun _ ds => decide (uptoBulkAll ds ≤ 1048576)
def OpenSpec.upto (s : _root_.Go.ChangeSpec) : _root_.Go.OpenSpec := { _root_.Go.OpenSpec.ofChange s with cond := some uptoSmall }

/-- 'swagelaw04.MachineParts', WHERE WHAT IT READS IS OF BULK AT MOST 1048576: true; the input reads as it did. -/
def machinePartsUptoRow : OpenClaim := { program := "ythokpdalojfmiaa", sum := "b117c2d7ce30a415c6b862e6f42b15ce0cc8be0ad6dfdd81d18202a16f6bfd30", func := "swage/swagelaw04.MachineParts", spec := "machineParts", unfollowed := true, recurses := true, apart := false, narrowed := true }
def MachinePartsUptoSaid : Prop := machinePartsUptoRow.holds Try.pinned (OpenSpec.upto machinePartsSpec)

/-- 'swagelaw04.MachineGrows', WHERE WHAT IT READS IS OF BULK AT MOST 1048576: true; the input reads as it did. -/
def machineGrowsUptoRow : OpenClaim := { program := "ythokpdalojfmiaa", sum := "b117c2d7ce30a415c6b862e6f42b15ce0cc8be0ad6dfdd81d18202a16f6bfd30", func := "swage/swagelaw04.MachineGrows", spec := "machineGrows", unfollowed := true, recurses := true, apart := false, narrowed := true }
def MachineGrowsUptoSaid : Prop := machineGrowsUptoRow.holds Try.pinned (OpenSpec.upto machineGrowsSpec)

/-- 'swagelaw04.MachineReckons', WHERE WHAT IT READS IS OF BULK AT MOST 1048576: true; the input reads as it did. -/
def machineReckonsUptoRow : OpenClaim := { program := "ythokpdalojfmiaa", sum := "b117c2d7ce30a415c6b862e6f42b15ce0cc8be0ad6dfdd81d18202a16f6bfd30", func := "swage/swagelaw04.MachineReckons", spec := "machineReckons", unfollowed := true, recurses := true, apart := false, narrowed := true }
def MachineReckonsUptoSaid : Prop := machineReckonsUptoRow.holds Try.pinned (OpenSpec.upto machineReckonsSpec)

end Rows
end Go.Proofs.Ythokpdalojfmiaa
