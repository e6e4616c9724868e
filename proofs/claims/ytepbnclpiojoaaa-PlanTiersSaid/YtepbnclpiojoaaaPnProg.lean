/- The program's plan keeps what the statements ask of it ('PnLaw.Pns'). No conditions. -/
import Derived.Test.YtepbnclpiojoaaaPnMergeP
import Derived.Test.YtepbnclpiojoaaaPnGoneP
namespace Go.Proofs.Ytepbnclpiojoaaa.PnProg
open Go Go.RowKit Words AppN PnSpec SgMem PnLaw

theorem pns : Pns := {
  tier := PnTier.tier_any
  bound := PnTier.bound_any
  merge := PnMergeP.merge_any
  gone := fun w s l mark hs _ _ hl => PnGoneP.gone_any w s l mark hs hl }
end Go.Proofs.Ytepbnclpiojoaaa.PnProg
