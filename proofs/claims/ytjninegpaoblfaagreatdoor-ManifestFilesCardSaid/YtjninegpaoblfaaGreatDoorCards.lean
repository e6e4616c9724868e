/-
  DERIVED. GIVEN WITH THE SEED: THE CARDS: each row of YtjninegpaoblfaaGreatDoorRows.lean that lists a variable, with what it lists TIED to the program's text (the seventh form; the later family's looks); each row that meets fmt, with fmt's text TOLD by the authors' own Lean function (tested against real Go, not proved from fmt's source: count such statements apart). THE CARD IS WHAT COUNTS. Prove the row's statement (the work); the ties are given (YtjninegpaoblfaaGreatDoorTie.lean); close each card by the builder's one call (the guide's Derived/Test/ToyasCard.lean, 'card_holds'). Laid BY PROGRAM, IN A SANDBOX (cutbox-door.mjs). By AI agents, Wed Nov 11 2026. No macro, syntax, notation, axiom, sorry.
-/
import Derived.Test.YtjninegpaoblfaaGreatDoorRows
import GoSem.ClaimSeven
namespace Go.Proofs.YtjninegpaoblfaaGreatDoor
namespace Rows

/-- THE TIED CARD OF 'garnerlaw15.ManifestFiles'. -/
def manifestFilesCard : Claim7 := { stood := { row := manifestFilesRow, standIns := [], harness := (true, "c1a8e0fcfaac76f9107372ee7ddf102920ef28cb6fa7ae2f07de117a21425a73"), looks := false }, kinds := [], alts := [], laidByText := true, laidKinds := [.data], laidTests := true, laidLooks := .later }
def ManifestFilesCardSaid : Prop := Claim7.holds Tryz.pinned (.plain (OpenSpec.ofChange manifestFilesSpec)) manifestFilesCard

/-- THE SECOND FORM's CARD OF 'garnerlaw15.ManifestFiles'. -/
def manifestFilesUptoCard : Claim7 := { stood := { row := manifestFilesUptoRow, standIns := [], harness := (true, "c1a8e0fcfaac76f9107372ee7ddf102920ef28cb6fa7ae2f07de117a21425a73"), looks := false }, kinds := [], alts := [], laidByText := true, laidKinds := [.data], laidTests := true, laidLooks := .later }
def ManifestFilesUptoCardSaid : Prop := Claim7.holds Tryz.pinned (.plain (OpenSpec.upto manifestFilesSpec)) manifestFilesUptoCard
end Rows
end Go.Proofs.YtjninegpaoblfaaGreatDoor
