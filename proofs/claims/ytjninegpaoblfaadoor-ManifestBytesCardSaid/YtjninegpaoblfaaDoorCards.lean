/-
  DERIVED. GIVEN WITH THE SEED: THE CARDS: each row of YtjninegpaoblfaaDoorRows.lean that lists a variable, with what it lists TIED to the program's text (the seventh form; the later family's looks); each row that meets fmt, with fmt's text TOLD by the authors' own Lean function (tested against real Go, not proved from fmt's source: count such statements apart). THE CARD IS WHAT COUNTS. Prove the row's statement (the work); the ties are given (YtjninegpaoblfaaDoorTie.lean); close each card by the builder's one call (the guide's Derived/Test/ToyasCard.lean, 'card_holds'). Laid BY PROGRAM, IN A SANDBOX (cutbox-door.mjs). By AI agents, Wed Nov 11 2026. No macro, syntax, notation, axiom, sorry.
-/
import Derived.Test.YtjninegpaoblfaaDoorRows
import GoSem.ClaimSeven
namespace Go.Proofs.YtjninegpaoblfaaDoor
namespace Rows

/-- THE TIED CARD OF 'garnerlaw15.ManifestBytes'. -/
def manifestBytesCard : Claim7 := { stood := { row := manifestBytesRow, standIns := [], harness := (true, "66fceadbf45639abce504dae50c814e1057ff59dc2033466ab47f4e7092edc59"), looks := false }, kinds := [], alts := [], laidByText := true, laidKinds := [.data], laidTests := true, laidLooks := .later }
def ManifestBytesCardSaid : Prop := Claim7.holds Tryd.pinned (.plain (OpenSpec.ofChange manifestBytesSpec)) manifestBytesCard

/-- THE TIED CARD OF 'garnerlaw15.ManifestSwap'. -/
def manifestSwapCard : Claim7 := { stood := { row := manifestSwapRow, standIns := [], harness := (true, "66fceadbf45639abce504dae50c814e1057ff59dc2033466ab47f4e7092edc59"), looks := false }, kinds := [], alts := [], laidByText := true, laidKinds := [.data], laidTests := true, laidLooks := .later }
def ManifestSwapCardSaid : Prop := Claim7.holds Tryd.pinned (.plain (OpenSpec.ofChange manifestSwapSpec)) manifestSwapCard

/-- THE TIED CARD OF 'garnerlaw15.ManifestKeeps'. -/
def manifestKeepsCard : Claim7 := { stood := { row := manifestKeepsRow, standIns := [], harness := (true, "66fceadbf45639abce504dae50c814e1057ff59dc2033466ab47f4e7092edc59"), looks := false }, kinds := [], alts := [], laidByText := true, laidKinds := [.data], laidTests := true, laidLooks := .later }
def ManifestKeepsCardSaid : Prop := Claim7.holds Tryd.pinned (.plain (OpenSpec.ofChange manifestKeepsSpec)) manifestKeepsCard

/-- THE SECOND FORM's CARD OF 'garnerlaw15.ManifestBytes'. -/
def manifestBytesUptoCard : Claim7 := { stood := { row := manifestBytesUptoRow, standIns := [], harness := (true, "66fceadbf45639abce504dae50c814e1057ff59dc2033466ab47f4e7092edc59"), looks := false }, kinds := [], alts := [], laidByText := true, laidKinds := [.data], laidTests := true, laidLooks := .later }
def ManifestBytesUptoCardSaid : Prop := Claim7.holds Tryd.pinned (.plain (OpenSpec.upto manifestBytesSpec)) manifestBytesUptoCard

/-- THE SECOND FORM's CARD OF 'garnerlaw15.ManifestSwap'. -/
def manifestSwapUptoCard : Claim7 := { stood := { row := manifestSwapUptoRow, standIns := [], harness := (true, "66fceadbf45639abce504dae50c814e1057ff59dc2033466ab47f4e7092edc59"), looks := false }, kinds := [], alts := [], laidByText := true, laidKinds := [.data], laidTests := true, laidLooks := .later }
def ManifestSwapUptoCardSaid : Prop := Claim7.holds Tryd.pinned (.plain (OpenSpec.upto manifestSwapSpec)) manifestSwapUptoCard

/-- THE SECOND FORM's CARD OF 'garnerlaw15.ManifestKeeps'. -/
def manifestKeepsUptoCard : Claim7 := { stood := { row := manifestKeepsUptoRow, standIns := [], harness := (true, "66fceadbf45639abce504dae50c814e1057ff59dc2033466ab47f4e7092edc59"), looks := false }, kinds := [], alts := [], laidByText := true, laidKinds := [.data], laidTests := true, laidLooks := .later }
def ManifestKeepsUptoCardSaid : Prop := Claim7.holds Tryd.pinned (.plain (OpenSpec.upto manifestKeepsSpec)) manifestKeepsUptoCard
end Rows
end Go.Proofs.YtjninegpaoblfaaDoor
