/-
  DERIVED. GIVEN WITH THE SEED: THE CARDS: each row of YtapbjmbakpopcaaDoorRows.lean that lists a variable, with what it lists TIED to the program's text (the seventh form; the later family's looks); each row that meets fmt, with fmt's text TOLD by the authors' own Lean function (tested against real Go, not proved from fmt's source: count such statements apart). THE CARD IS WHAT COUNTS. Prove the row's statement (the work); the ties are given (YtapbjmbakpopcaaDoorTie.lean); close each card by the builder's one call (the guide's Derived/Test/ToyasCard.lean, 'card_holds'). Laid BY PROGRAM, IN A SANDBOX (cutbox-door.mjs). By AI agents, Wed Nov 11 2026. No macro, syntax, notation, axiom, sorry.
-/
import Derived.Test.YtapbjmbakpopcaaDoorRows
import GoSem.ClaimSeven
namespace Go.Proofs.YtapbjmbakpopcaaDoor
namespace Rows

/-- THE TIED CARD OF 'garnerlaw10.WalReplay'. -/
def walReplayCard : Claim7 := { stood := { row := walReplayRow, standIns := [], harness := (true, "d572fbdbb5279bde76f6e676de3dbe5546281c20a5beaf1915fa6abae53eaccc"), looks := false }, kinds := [], alts := [], laidByText := true, laidKinds := [.data, .data, .data, .data], laidTests := true, laidLooks := .later }
def WalReplayCardSaid : Prop := Claim7.holds Tryd.pinned (.plain (OpenSpec.ofChange walReplaySpec)) walReplayCard

/-- THE TIED CARD OF 'garnerlaw10.WalDrops'. -/
def walDropsCard : Claim7 := { stood := { row := walDropsRow, standIns := [], harness := (true, "d572fbdbb5279bde76f6e676de3dbe5546281c20a5beaf1915fa6abae53eaccc"), looks := false }, kinds := [], alts := [], laidByText := true, laidKinds := [.data, .data, .data, .data], laidTests := true, laidLooks := .later }
def WalDropsCardSaid : Prop := Claim7.holds Tryd.pinned (.plain (OpenSpec.ofChange walDropsSpec)) walDropsCard

/-- THE TIED CARD OF 'garnerlaw10.WalTorn'. -/
def walTornCard : Claim7 := { stood := { row := walTornRow, standIns := [], harness := (true, "d572fbdbb5279bde76f6e676de3dbe5546281c20a5beaf1915fa6abae53eaccc"), looks := false }, kinds := [], alts := [], laidByText := true, laidKinds := [.data, .data, .data, .data], laidTests := true, laidLooks := .later }
def WalTornCardSaid : Prop := Claim7.holds Tryd.pinned (.plain (OpenSpec.ofChange walTornSpec)) walTornCard

/-- THE SECOND FORM's CARD OF 'garnerlaw10.WalReplay'. -/
def walReplayUptoCard : Claim7 := { stood := { row := walReplayUptoRow, standIns := [], harness := (true, "d572fbdbb5279bde76f6e676de3dbe5546281c20a5beaf1915fa6abae53eaccc"), looks := false }, kinds := [], alts := [], laidByText := true, laidKinds := [.data, .data, .data, .data], laidTests := true, laidLooks := .later }
def WalReplayUptoCardSaid : Prop := Claim7.holds Tryd.pinned (.plain (OpenSpec.upto walReplaySpec)) walReplayUptoCard

/-- THE SECOND FORM's CARD OF 'garnerlaw10.WalDrops'. -/
def walDropsUptoCard : Claim7 := { stood := { row := walDropsUptoRow, standIns := [], harness := (true, "d572fbdbb5279bde76f6e676de3dbe5546281c20a5beaf1915fa6abae53eaccc"), looks := false }, kinds := [], alts := [], laidByText := true, laidKinds := [.data, .data, .data, .data], laidTests := true, laidLooks := .later }
def WalDropsUptoCardSaid : Prop := Claim7.holds Tryd.pinned (.plain (OpenSpec.upto walDropsSpec)) walDropsUptoCard

/-- THE SECOND FORM's CARD OF 'garnerlaw10.WalTorn'. -/
def walTornUptoCard : Claim7 := { stood := { row := walTornUptoRow, standIns := [], harness := (true, "d572fbdbb5279bde76f6e676de3dbe5546281c20a5beaf1915fa6abae53eaccc"), looks := false }, kinds := [], alts := [], laidByText := true, laidKinds := [.data, .data, .data, .data], laidTests := true, laidLooks := .later }
def WalTornUptoCardSaid : Prop := Claim7.holds Tryd.pinned (.plain (OpenSpec.upto walTornSpec)) walTornUptoCard
end Rows
end Go.Proofs.YtapbjmbakpopcaaDoor
