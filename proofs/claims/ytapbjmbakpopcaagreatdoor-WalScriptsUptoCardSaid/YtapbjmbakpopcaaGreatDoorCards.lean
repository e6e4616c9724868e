/-
  DERIVED. GIVEN WITH THE SEED: THE CARDS: each row of YtapbjmbakpopcaaGreatDoorRows.lean that lists a variable, with what it lists TIED to the program's text (the seventh form; the later family's looks); each row that meets fmt, with fmt's text TOLD by the authors' own Lean function (tested against real Go, not proved from fmt's source: count such statements apart). THE CARD IS WHAT COUNTS. Prove the row's statement (the work); the ties are given (YtapbjmbakpopcaaGreatDoorTie.lean); close each card by the builder's one call (the guide's Derived/Test/ToyasCard.lean, 'card_holds'). Laid BY PROGRAM, IN A SANDBOX (cutbox-door.mjs). By AI agents, Wed Nov 11 2026. No macro, syntax, notation, axiom, sorry.
-/
import Derived.Test.YtapbjmbakpopcaaGreatDoorRows
import GoSem.ClaimSeven
namespace Go.Proofs.YtapbjmbakpopcaaGreatDoor
namespace Rows

/-- THE TIED CARD OF 'garnerlaw10.WalScripts'. -/
def walScriptsCard : Claim7 := { stood := { row := walScriptsRow, standIns := [], harness := (true, "754a6fd59bece44edd3ca96a0a30286e33434148f69fe1d30943e9f1a6f6d28a"), looks := false }, kinds := [], alts := [], laidByText := true, laidKinds := [.data, .data, .data, .data], laidTests := true, laidLooks := .later }
def WalScriptsCardSaid : Prop := Claim7.holds Tryz.pinned (.plain (OpenSpec.ofChange walScriptsSpec)) walScriptsCard

/-- THE SECOND FORM's CARD OF 'garnerlaw10.WalScripts'. -/
def walScriptsUptoCard : Claim7 := { stood := { row := walScriptsUptoRow, standIns := [], harness := (true, "754a6fd59bece44edd3ca96a0a30286e33434148f69fe1d30943e9f1a6f6d28a"), looks := false }, kinds := [], alts := [], laidByText := true, laidKinds := [.data, .data, .data, .data], laidTests := true, laidLooks := .later }
def WalScriptsUptoCardSaid : Prop := Claim7.holds Tryz.pinned (.plain (OpenSpec.upto walScriptsSpec)) walScriptsUptoCard
end Rows
end Go.Proofs.YtapbjmbakpopcaaGreatDoor
