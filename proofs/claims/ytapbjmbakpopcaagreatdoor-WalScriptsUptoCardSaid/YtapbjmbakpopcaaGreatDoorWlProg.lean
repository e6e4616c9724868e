/- The program's log is one over a disk, as the document says: the contracts of its seven calls together. No conditions but those of each. -/
import Derived.Test.YtapbjmbakpopcaaGreatDoorWpOpens
import Derived.Test.YtapbjmbakpopcaaGreatDoorWpApps
namespace Go.Proofs.YtapbjmbakpopcaaGreatDoor.WlProg
open Go Go.RowKit WlLaw

abbrev LogR := WpOps.LogR
theorem wal : Wal LogR where
  keep h hb := h.keep hb
  lt h := h.lt
  name w n h hL := WpName.name_any w n h hL
  opens w K p d first h1 h2 h3 h4 h5 := WpOpen.open_any w K p d first h1 h2 h3 h4 h5
  append w K p g d l b A c h1 h2 h3 h4 h5 h6 h7 h8 h9 h10 h11 h12 := WpApp.append_any w K p g d l b A c h1 h2 h3 h4 h5 h6 h7 h8 h9 h10 h11 h12
  sync w K p g d l h1 h2 h3 h4 h5 h6 := WpOps.sync_any w K p g d l h1 h2 h3 h4 h5 h6
  rotate w K p g d l h1 h2 h3 h4 := WpOps.rotate_any w K p g d l h1 h2 h3 h4
  number w p g l h1 h2 := WpOps.number_any w p g l h1 h2
  drop w K p g d l below h1 h2 h3 h4 h5 h6 h7 h8 h9 := WpDrop.drop_any w K p g d l below h1 h2 h3 h4 h5 h6 h7 h8 h9
end Go.Proofs.YtapbjmbakpopcaaGreatDoor.WlProg
