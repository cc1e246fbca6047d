/-
  DERIVED. GIVEN WITH THE SEED: THE CARDS: each row of YtbfmadcppnfgpaaGreatDoorRows.lean that lists a variable, with what it lists TIED to the program's text (the seventh form; the later family's looks); each row that meets fmt, with fmt's text TOLD by the authors' own Lean function (tested against real Go, not proved from fmt's source: count such statements apart). THE CARD IS WHAT COUNTS. Prove the row's statement (the work); the ties are given (YtbfmadcppnfgpaaGreatDoorTie.lean); close each card by the builder's one call (the guide's Derived/Test/ToyasCard.lean, 'card_holds'). Laid BY PROGRAM, IN A SANDBOX (cutbox-door.mjs). By AI agents, Wed Nov 11 2026. No macro, syntax, notation, axiom, sorry.
-/
import Derived.Test.YtbfmadcppnfgpaaGreatDoorRows
import GoSem.ClaimSeven
namespace Go.Proofs.YtbfmadcppnfgpaaGreatDoor
namespace Rows

/-- THE TIED CARD OF 'swagelaw05.AsmConst'. -/
def asmConstCard : Claim7 := { stood := { row := asmConstRow, standIns := [], harness := (true, "cf71f7509427652aeb5ac33a51b709508ac4601b0e6dc647eeeb55911c337179"), looks := false }, kinds := [], alts := [], laidByText := true, laidKinds := [.data, .data, .data, .data], laidTests := true, laidLooks := .later }
def AsmConstCardSaid : Prop := Claim7.holds Tryz.pinned (.plain (OpenSpec.ofChange asmConstSpec)) asmConstCard

/-- THE SECOND FORM's CARD OF 'swagelaw05.AsmConst'. -/
def asmConstUptoCard : Claim7 := { stood := { row := asmConstUptoRow, standIns := [], harness := (true, "cf71f7509427652aeb5ac33a51b709508ac4601b0e6dc647eeeb55911c337179"), looks := false }, kinds := [], alts := [], laidByText := true, laidKinds := [.data, .data, .data, .data], laidTests := true, laidLooks := .later }
def AsmConstUptoCardSaid : Prop := Claim7.holds Tryz.pinned (.plain (OpenSpec.upto asmConstSpec)) asmConstUptoCard
end Rows
end Go.Proofs.YtbfmadcppnfgpaaGreatDoor
