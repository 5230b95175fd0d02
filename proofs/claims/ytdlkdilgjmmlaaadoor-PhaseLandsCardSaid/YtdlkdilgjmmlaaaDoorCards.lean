/-
  DERIVED. GIVEN WITH THE SEED: THE CARDS: each row of YtdlkdilgjmmlaaaDoorRows.lean that lists a variable, with what it lists TIED to the program's text (the seventh form; the later family's looks); each row that meets fmt, with fmt's text TOLD by the authors' own Lean function (tested against real Go, not proved from fmt's source: count such statements apart). THE CARD IS WHAT COUNTS. Prove the row's statement (the work); the ties are given (YtdlkdilgjmmlaaaDoorTie.lean); close each card by the builder's one call (the guide's Derived/Test/ToyasCard.lean, 'card_holds'). Laid BY PROGRAM, IN A SANDBOX (cutbox-door.mjs). By AI agents, Wed Nov 11 2026. No macro, syntax, notation, axiom, sorry.
-/
import Derived.Test.YtdlkdilgjmmlaaaDoorRows
import GoSem.ClaimSeven
namespace Go.Proofs.YtdlkdilgjmmlaaaDoor
namespace Rows

/-- THE TIED CARD OF 'hydralaw15.PhaseLands'. -/
def phaseLandsCard : Claim7 := { stood := { row := phaseLandsRow, standIns := [], harness := (true, "ce4fa506e8702489d060e87ba2dba3876ae63dd0a4fca6a2c825b869ed9c0b5b"), looks := false }, kinds := [], alts := [], laidByText := true, laidKinds := [.data], laidTests := true, laidLooks := .later }
def PhaseLandsCardSaid : Prop := Claim7.holds Tryd.pinned (.plain (OpenSpec.ofChange phaseLandsSpec)) phaseLandsCard

/-- THE SECOND FORM's CARD OF 'hydralaw15.PhaseLands'. -/
def phaseLandsUptoCard : Claim7 := { stood := { row := phaseLandsUptoRow, standIns := [], harness := (true, "ce4fa506e8702489d060e87ba2dba3876ae63dd0a4fca6a2c825b869ed9c0b5b"), looks := false }, kinds := [], alts := [], laidByText := true, laidKinds := [.data], laidTests := true, laidLooks := .later }
def PhaseLandsUptoCardSaid : Prop := Claim7.holds Tryd.pinned (.plain (OpenSpec.upto phaseLandsSpec)) phaseLandsUptoCard
end Rows
end Go.Proofs.YtdlkdilgjmmlaaaDoor
