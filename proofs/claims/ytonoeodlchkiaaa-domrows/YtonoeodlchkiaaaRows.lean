/-
  No cell of these rows narrows 'for every input' (looked for: loops, veiled, ifaces, maps, wideKeys, modest, calm, conditions, laid).
  DERIVED. THE GIVEN ROWS OF THIS SEAT. 4 by the template 'for every input the law returns true; each argument reads behind the call as it read before'; 0 by the template 'total and deterministic' (their statements: YtonoeodlchkiaaaTotals.lean).
  GIVEN WITH THE SEED: the statements are not yours to turn. If you find one false, say at which input.
  Laid BY PROGRAM, IN A SANDBOX (cutbox-rows.mjs): the forced cells as the released guide's own fill.sh prints them over the translation 0b94028bc9cfc188… (all of the seat's roots in one cut). By AI agents, Wed Nov 11 2026. No macro, syntax, notation, axiom, sorry.
-/
import Derived.Test.YtonoeodlchkiaaaChecked
import GoSem.Claim
import GoSem.ClaimJoined
import GoSem.ClaimMapViews
import Derived.JoinedTies
import Derived.KernelRfl
namespace Go.Proofs.Ytonoeodlchkiaaa
/- THE CELL 'sum', in the pinned program and in every row, IS THE sha256 OF THE DUMP (.gsa) THAT YtonoeodlchkiaaaProg.lean LOADS. Nothing in Lean hashes anything: it is a label: what it is worth is what the hold of that sum in a sandbox is worth. -/
noncomputable def Try.pinned : Pinned := { name := "ytonoeodlchkiaaa", sum := "0b94028bc9cfc18889f8f1612731f38c87ec3dfa0b51a0dcb75a70400c999efc", checked := Try.checked }
namespace Rows
def none {H : Type} : Left H := { results := [], args := [] }

/-- 'swagelaw07.DomRows': WHATEVER THE INPUT: true; the input reads as it did. -/
def domRowsSpec : ChangeSpec := { name := "domRows", fn := fun _ => fun
  | [d1, d2, d3] => { results := [.lit (.bool true)], args := [d1, d2, d3] }
  | _ => none }
def domRowsRow : OpenClaim := { program := "ytonoeodlchkiaaa", sum := "0b94028bc9cfc18889f8f1612731f38c87ec3dfa0b51a0dcb75a70400c999efc", func := "swage/swagelaw07.DomRows", spec := "domRows", unfollowed := true, recurses := true, apart := false }
def DomRowsSaid : Prop := domRowsRow.holds Try.pinned (OpenSpec.ofChange domRowsSpec)

/-- ITS FALSE NEIGHBOUR: 'it returns false'. Refute it at one input. -/
def domRowsWrong : ChangeSpec := { name := "domRows", fn := fun _ => fun
  | [d1, d2, d3] => { results := [.lit (.bool false)], args := [d1, d2, d3] }
  | _ => none }
def DomRowsWrongFalsely : Prop := domRowsRow.holds Try.pinned (OpenSpec.ofChange domRowsWrong)

/-- 'swagelaw07.DomCloses': WHATEVER THE INPUT: true; the input reads as it did. -/
def domClosesSpec : ChangeSpec := { name := "domCloses", fn := fun _ => fun
  | [d1, d2] => { results := [.lit (.bool true)], args := [d1, d2] }
  | _ => none }
def domClosesRow : OpenClaim := { program := "ytonoeodlchkiaaa", sum := "0b94028bc9cfc18889f8f1612731f38c87ec3dfa0b51a0dcb75a70400c999efc", func := "swage/swagelaw07.DomCloses", spec := "domCloses", unfollowed := true, recurses := true, apart := false }
def DomClosesSaid : Prop := domClosesRow.holds Try.pinned (OpenSpec.ofChange domClosesSpec)

/-- ITS FALSE NEIGHBOUR: 'it returns false'. Refute it at one input. -/
def domClosesWrong : ChangeSpec := { name := "domCloses", fn := fun _ => fun
  | [d1, d2] => { results := [.lit (.bool false)], args := [d1, d2] }
  | _ => none }
def DomClosesWrongFalsely : Prop := domClosesRow.holds Try.pinned (OpenSpec.ofChange domClosesWrong)

/-- 'swagelaw07.DomTree': WHATEVER THE INPUT: true; the input reads as it did. -/
def domTreeSpec : ChangeSpec := { name := "domTree", fn := fun _ => fun
  | [d] => { results := [.lit (.bool true)], args := [d] }
  | _ => none }
def domTreeRow : OpenClaim := { program := "ytonoeodlchkiaaa", sum := "0b94028bc9cfc18889f8f1612731f38c87ec3dfa0b51a0dcb75a70400c999efc", func := "swage/swagelaw07.DomTree", spec := "domTree", unfollowed := true, recurses := true, apart := false }
def DomTreeSaid : Prop := domTreeRow.holds Try.pinned (OpenSpec.ofChange domTreeSpec)

/-- ITS FALSE NEIGHBOUR: 'it returns false'. Refute it at one input. -/
def domTreeWrong : ChangeSpec := { name := "domTree", fn := fun _ => fun
  | [d] => { results := [.lit (.bool false)], args := [d] }
  | _ => none }
def DomTreeWrongFalsely : Prop := domTreeRow.holds Try.pinned (OpenSpec.ofChange domTreeWrong)

/-- 'swagelaw07.DomChain': WHATEVER THE INPUT: true; the input reads as it did. -/
def domChainSpec : ChangeSpec := { name := "domChain", fn := fun _ => fun
  | [d1, d2] => { results := [.lit (.bool true)], args := [d1, d2] }
  | _ => none }
def domChainRow : OpenClaim := { program := "ytonoeodlchkiaaa", sum := "0b94028bc9cfc18889f8f1612731f38c87ec3dfa0b51a0dcb75a70400c999efc", func := "swage/swagelaw07.DomChain", spec := "domChain", unfollowed := true, recurses := true, apart := false }
def DomChainSaid : Prop := domChainRow.holds Try.pinned (OpenSpec.ofChange domChainSpec)

/-- ITS FALSE NEIGHBOUR: 'it returns false'. Refute it at one input. -/
def domChainWrong : ChangeSpec := { name := "domChain", fn := fun _ => fun
  | [d1, d2] => { results := [.lit (.bool false)], args := [d1, d2] }
  | _ => none }
def DomChainWrongFalsely : Prop := domChainRow.holds Try.pinned (OpenSpec.ofChange domChainWrong)

/- THE SECOND FORM. 'bulk': how many values and letters a reading holds, each counted each time it is reached (what is shared counts as often as it is met; a slice's spare places count too). A statement '..UptoSaid' is the law's where the arguments, and the package variables that the reading takes, are together of bulk at most 1048576: NARROWER than '..Said'. Prove '..Said' where nothing that the law and all that it calls make is longer than what came in: it says more and counts as full. Else prove '..UptoSaid'. A law counts once. -/
mutual
def uptoBulk {H : Type} : DataW H → Nat
  | .lit (.string bytes) => bytes.length + 1
  | .lit _ => 1
  | .nil => 1
  | .ptr d => uptoBulk d + 1
  | .slice elems spare => uptoBulkAll elems + uptoBulkAll spare + 1
  | .agg parts => uptoBulkAll parts + 1
  | .iface _ d => uptoBulk d + 1
  | .map entries => uptoBulkEntries entries + 1
  | .held _ => 1
def uptoBulkAll {H : Type} : List (DataW H) → Nat
  | [] => 0
  | d :: r => uptoBulk d + uptoBulkAll r
def uptoBulkEntries {H : Type} : List (Lit × DataW H) → Nat
  | [] => 0
  | x :: r => uptoBulkEntry x + uptoBulkEntries r
def uptoBulkEntry {H : Type} : Lit × DataW H → Nat
  | (.string bytes, d) => bytes.length + uptoBulk d + 1
  | (_, d) => uptoBulk d + 1
 end
def uptoSmall : (H : Type) → List (DataW H) → Bool := fun _ ds => decide (uptoBulkAll ds ≤ 1048576)
def OpenSpec.upto (s : _root_.Go.ChangeSpec) : _root_.Go.OpenSpec := { _root_.Go.OpenSpec.ofChange s with cond := some uptoSmall }

/-- 'swagelaw07.DomRows', WHERE WHAT IT READS IS OF BULK AT MOST 1048576: true; the input reads as it did. -/
def domRowsUptoRow : OpenClaim := { program := "ytonoeodlchkiaaa", sum := "0b94028bc9cfc18889f8f1612731f38c87ec3dfa0b51a0dcb75a70400c999efc", func := "swage/swagelaw07.DomRows", spec := "domRows", unfollowed := true, recurses := true, apart := false, narrowed := true }
def DomRowsUptoSaid : Prop := domRowsUptoRow.holds Try.pinned (OpenSpec.upto domRowsSpec)

/-- 'swagelaw07.DomCloses', WHERE WHAT IT READS IS OF BULK AT MOST 1048576: true; the input reads as it did. -/
def domClosesUptoRow : OpenClaim := { program := "ytonoeodlchkiaaa", sum := "0b94028bc9cfc18889f8f1612731f38c87ec3dfa0b51a0dcb75a70400c999efc", func := "swage/swagelaw07.DomCloses", spec := "domCloses", unfollowed := true, recurses := true, apart := false, narrowed := true }
def DomClosesUptoSaid : Prop := domClosesUptoRow.holds Try.pinned (OpenSpec.upto domClosesSpec)

/-- 'swagelaw07.DomTree', WHERE WHAT IT READS IS OF BULK AT MOST 1048576: true; the input reads as it did. -/
def domTreeUptoRow : OpenClaim := { program := "ytonoeodlchkiaaa", sum := "0b94028bc9cfc18889f8f1612731f38c87ec3dfa0b51a0dcb75a70400c999efc", func := "swage/swagelaw07.DomTree", spec := "domTree", unfollowed := true, recurses := true, apart := false, narrowed := true }
def DomTreeUptoSaid : Prop := domTreeUptoRow.holds Try.pinned (OpenSpec.upto domTreeSpec)

/-- 'swagelaw07.DomChain', WHERE WHAT IT READS IS OF BULK AT MOST 1048576: true; the input reads as it did. -/
def domChainUptoRow : OpenClaim := { program := "ytonoeodlchkiaaa", sum := "0b94028bc9cfc18889f8f1612731f38c87ec3dfa0b51a0dcb75a70400c999efc", func := "swage/swagelaw07.DomChain", spec := "domChain", unfollowed := true, recurses := true, apart := false, narrowed := true }
def DomChainUptoSaid : Prop := domChainUptoRow.holds Try.pinned (OpenSpec.upto domChainSpec)

end Rows
end Go.Proofs.Ytonoeodlchkiaaa
