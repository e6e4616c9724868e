/-
  No cell of these rows narrows 'for every input' (looked for: loops, veiled, ifaces, maps, wideKeys, modest, calm, conditions, laid).
  DERIVED. THE GIVEN ROWS OF THIS SEAT. 4 by the template 'for every input the law returns true; each argument reads behind the call as it read before'; 0 by the template 'total and deterministic' (their statements: YtepbnclpiojoaaaTotals.lean).
  GIVEN WITH THE SEED: the statements are not yours to turn. If you find one false, say at which input.
  Laid BY PROGRAM, IN A SANDBOX (cutbox-rows.mjs): the forced cells as the released guide's own fill.sh prints them over the translation 92141e4fc0ca2cf2… (all of the seat's roots in one cut). By AI agents, Wed Nov 11 2026. No macro, syntax, notation, axiom, sorry.
-/
import Derived.Test.YtepbnclpiojoaaaChecked
import GoSem.Claim
import GoSem.ClaimJoined
import GoSem.ClaimMapViews
import Derived.JoinedTies
import Derived.KernelRfl
namespace Go.Proofs.Ytepbnclpiojoaaa
/- THE CELL 'sum', in the pinned program and in every row, IS THE sha256 OF THE DUMP (.gsa) THAT YtepbnclpiojoaaaProg.lean LOADS. Nothing in Lean hashes anything: it is a label: what it is worth is what the hold of that sum in a sandbox is worth. -/
noncomputable def Try.pinned : Pinned := { name := "ytepbnclpiojoaaa", sum := "92141e4fc0ca2cf2dc7239a2de93f2b535dd8b171bdf431da5130347d95e60c6", checked := Try.checked }
namespace Rows
def none {H : Type} : Left H := { results := [], args := [] }

/-- 'garnerlaw16.PlanAll': WHATEVER THE INPUT: true; the input reads as it did. -/
def planAllSpec : ChangeSpec := { name := "planAll", fn := fun _ => fun
  | [d1, d2, d3] => { results := [.lit (.bool true)], args := [d1, d2, d3] }
  | _ => none }
def planAllRow : OpenClaim := { program := "ytepbnclpiojoaaa", sum := "92141e4fc0ca2cf2dc7239a2de93f2b535dd8b171bdf431da5130347d95e60c6", func := "garner/garnerlaw16.PlanAll", spec := "planAll", apart := false }
def PlanAllSaid : Prop := planAllRow.holds Try.pinned (OpenSpec.ofChange planAllSpec)

/-- ITS FALSE NEIGHBOUR: 'it returns false'. Refute it at one input. -/
def planAllWrong : ChangeSpec := { name := "planAll", fn := fun _ => fun
  | [d1, d2, d3] => { results := [.lit (.bool false)], args := [d1, d2, d3] }
  | _ => none }
def PlanAllWrongFalsely : Prop := planAllRow.holds Try.pinned (OpenSpec.ofChange planAllWrong)

/-- 'garnerlaw16.PlanEnds': WHATEVER THE INPUT: true; the input reads as it did. -/
def planEndsSpec : ChangeSpec := { name := "planEnds", fn := fun _ => fun
  | [d1, d2] => { results := [.lit (.bool true)], args := [d1, d2] }
  | _ => none }
def planEndsRow : OpenClaim := { program := "ytepbnclpiojoaaa", sum := "92141e4fc0ca2cf2dc7239a2de93f2b535dd8b171bdf431da5130347d95e60c6", func := "garner/garnerlaw16.PlanEnds", spec := "planEnds", apart := false }
def PlanEndsSaid : Prop := planEndsRow.holds Try.pinned (OpenSpec.ofChange planEndsSpec)

/-- ITS FALSE NEIGHBOUR: 'it returns false'. Refute it at one input. -/
def planEndsWrong : ChangeSpec := { name := "planEnds", fn := fun _ => fun
  | [d1, d2] => { results := [.lit (.bool false)], args := [d1, d2] }
  | _ => none }
def PlanEndsWrongFalsely : Prop := planEndsRow.holds Try.pinned (OpenSpec.ofChange planEndsWrong)

/-- 'garnerlaw16.PlanTiers': WHATEVER THE INPUT: true; the input reads as it did. -/
def planTiersSpec : ChangeSpec := { name := "planTiers", fn := fun _ => fun
  | [d1, d2, d3] => { results := [.lit (.bool true)], args := [d1, d2, d3] }
  | _ => none }
def planTiersRow : OpenClaim := { program := "ytepbnclpiojoaaa", sum := "92141e4fc0ca2cf2dc7239a2de93f2b535dd8b171bdf431da5130347d95e60c6", func := "garner/garnerlaw16.PlanTiers", spec := "planTiers", apart := false }
def PlanTiersSaid : Prop := planTiersRow.holds Try.pinned (OpenSpec.ofChange planTiersSpec)

/-- ITS FALSE NEIGHBOUR: 'it returns false'. Refute it at one input. -/
def planTiersWrong : ChangeSpec := { name := "planTiers", fn := fun _ => fun
  | [d1, d2, d3] => { results := [.lit (.bool false)], args := [d1, d2, d3] }
  | _ => none }
def PlanTiersWrongFalsely : Prop := planTiersRow.holds Try.pinned (OpenSpec.ofChange planTiersWrong)

/-- 'garnerlaw16.PlanPicks': WHATEVER THE INPUT: true; the input reads as it did. -/
def planPicksSpec : ChangeSpec := { name := "planPicks", fn := fun _ => fun
  | [d] => { results := [.lit (.bool true)], args := [d] }
  | _ => none }
def planPicksRow : OpenClaim := { program := "ytepbnclpiojoaaa", sum := "92141e4fc0ca2cf2dc7239a2de93f2b535dd8b171bdf431da5130347d95e60c6", func := "garner/garnerlaw16.PlanPicks", spec := "planPicks", apart := false }
def PlanPicksSaid : Prop := planPicksRow.holds Try.pinned (OpenSpec.ofChange planPicksSpec)

/-- ITS FALSE NEIGHBOUR: 'it returns false'. Refute it at one input. -/
def planPicksWrong : ChangeSpec := { name := "planPicks", fn := fun _ => fun
  | [d] => { results := [.lit (.bool false)], args := [d] }
  | _ => none }
def PlanPicksWrongFalsely : Prop := planPicksRow.holds Try.pinned (OpenSpec.ofChange planPicksWrong)

/- THE SECOND FORM. 'bulk': how many values and letters a reading holds, each counted each time it is reached (what is shared counts as often as it is met; a slice's spare places count too). A statement '..UptoSaid' is the law's where the arguments, and the package variables that the reading takes, are together of bulk at most 1048576: NARROWER than '..Said'. Prove '..Said' where nothing that the law and all that it calls make is longer than what came in: it says more and counts as full. Else prove '..UptoSaid'. A law counts once. -/
mutual
def uptoBulk {H : Type} : DataW H → Nat
  | .lit (.string bytes) => bytes.length + 1
  | .lit _ => 1
  | .nil => 1
  | .ptr d => uptoBulk d + 1
  | .slice elems spare => uptoBulkAll elems + uptoBulkAll spare + 1
  | .agg parts => uptoBulkAll parts + 1
  | .iface _ d => uptoBulk d + 1
  | .map entries => uptoBulkEntries entries + 1
  | .held _ => 1
def uptoBulkAll {H : Type} : List (DataW H) → Nat
  | [] => 0
  | d :: r => uptoBulk d + uptoBulkAll r
def uptoBulkEntries {H : Type} : List (Lit × DataW H) → Nat
  | [] => 0
  | x :: r => uptoBulkEntry x + uptoBulkEntries r
def uptoBulkEntry {H : Type} : Lit × DataW H → Nat
  | (.string bytes, d) => bytes.length + uptoBulk d + 1
  | (_, d) => uptoBulk d + 1
 end
def uptoSmall : (H : Type) → List (DataW H) → Bool := fun _ ds => decide (uptoBulkAll ds ≤ 1048576)
def OpenSpec.upto (s : _root_.Go.ChangeSpec) : _root_.Go.OpenSpec := { _root_.Go.OpenSpec.ofChange s with cond := some uptoSmall }

/-- 'garnerlaw16.PlanAll', WHERE WHAT IT READS IS OF BULK AT MOST 1048576: true; the input reads as it did. -/
def planAllUptoRow : OpenClaim := { program := "ytepbnclpiojoaaa", sum := "92141e4fc0ca2cf2dc7239a2de93f2b535dd8b171bdf431da5130347d95e60c6", func := "garner/garnerlaw16.PlanAll", spec := "planAll", apart := false, narrowed := true }
def PlanAllUptoSaid : Prop := planAllUptoRow.holds Try.pinned (OpenSpec.upto planAllSpec)

/-- 'garnerlaw16.PlanEnds', WHERE WHAT IT READS IS OF BULK AT MOST 1048576: true; the input reads as it did. -/
def planEndsUptoRow : OpenClaim := { program := "ytepbnclpiojoaaa", sum := "92141e4fc0ca2cf2dc7239a2de93f2b535dd8b171bdf431da5130347d95e60c6", func := "garner/garnerlaw16.PlanEnds", spec := "planEnds", apart := false, narrowed := true }
def PlanEndsUptoSaid : Prop := planEndsUptoRow.holds Try.pinned (OpenSpec.upto planEndsSpec)

/-- 'garnerlaw16.PlanTiers', WHERE WHAT IT READS IS OF BULK AT MOST 1048576: true; the input reads as it did. -/
def planTiersUptoRow : OpenClaim := { program := "ytepbnclpiojoaaa", sum := "92141e4fc0ca2cf2dc7239a2de93f2b535dd8b171bdf431da5130347d95e60c6", func := "garner/garnerlaw16.PlanTiers", spec := "planTiers", apart := false, narrowed := true }
def PlanTiersUptoSaid : Prop := planTiersUptoRow.holds Try.pinned (OpenSpec.upto planTiersSpec)

/-- 'garnerlaw16.PlanPicks', WHERE WHAT IT READS IS OF BULK AT MOST 1048576: true; the input reads as it did. -/
def planPicksUptoRow : OpenClaim := { program := "ytepbnclpiojoaaa", sum := "92141e4fc0ca2cf2dc7239a2de93f2b535dd8b171bdf431da5130347d95e60c6", func := "garner/garnerlaw16.PlanPicks", spec := "planPicks", apart := false, narrowed := true }
def PlanPicksUptoSaid : Prop := planPicksUptoRow.holds Try.pinned (OpenSpec.upto planPicksSpec)

end Rows
end Go.Proofs.Ytepbnclpiojoaaa
