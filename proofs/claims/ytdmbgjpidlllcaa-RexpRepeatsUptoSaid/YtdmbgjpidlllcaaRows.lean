/-
  No cell of these rows narrows 'for every input' (looked for: loops, veiled, ifaces, maps, wideKeys, modest, calm, conditions, laid).
  DERIVED. THE GIVEN ROWS OF THIS SEAT. 5 by the template 'for every input the law returns true; each argument reads behind the call as it read before'; 0 by the template 'total and deterministic' (their statements: YtdmbgjpidlllcaaTotals.lean).
  GIVEN WITH THE SEED: the statements are not yours to turn. If you find one false, say at which input.
  Laid BY PROGRAM, IN A SANDBOX (cutbox-rows.mjs): the forced cells as the released guide's own fill.sh prints them over the translation d646c83d938cf163… (all of the seat's roots in one cut). By AI agents, Wed Nov 11 2026. No macro, syntax, notation, axiom, sorry.
-/
import Derived.Test.YtdmbgjpidlllcaaChecked
import GoSem.Claim
import GoSem.ClaimJoined
import GoSem.ClaimMapViews
import Derived.JoinedTies
import Derived.KernelRfl
namespace Go.Proofs.Ytdmbgjpidlllcaa
/- THE CELL 'sum', in the pinned program and in every row, IS THE sha256 OF THE DUMP (.gsa) THAT YtdmbgjpidlllcaaProg.lean LOADS. Nothing in Lean hashes anything: it is a label: what it is worth is what the hold of that sum in a sandbox is worth. -/
noncomputable def Try.pinned : Pinned := { name := "ytdmbgjpidlllcaa", sum := "d646c83d938cf16384b49824c0e05f3df304cb1dca11c7ae52be42dd57dbe836", checked := Try.checked }
namespace Rows
def none {H : Type} : Left H := { results := [], args := [] }

/-- 'garnerlaw18.RexpParses': WHATEVER THE INPUT: true; the input reads as it did. -/
def rexpParsesSpec : ChangeSpec := { name := "rexpParses", fn := fun _ => fun
  | [d] => { results := [.lit (.bool true)], args := [d] }
  | _ => none }
def rexpParsesRow : OpenClaim := { program := "ytdmbgjpidlllcaa", sum := "d646c83d938cf16384b49824c0e05f3df304cb1dca11c7ae52be42dd57dbe836", func := "garner/garnerlaw18.RexpParses", spec := "rexpParses", inPlace := ["internal/bytealg.IndexByteString", "internal/bytealg.IndexString"], unfollowed := true, recurses := true, named := ["internal/bytealg.MaxLen"], apart := false }
def RexpParsesSaid : Prop := rexpParsesRow.holds Try.pinned (OpenSpec.ofChange rexpParsesSpec)

/-- ITS FALSE NEIGHBOUR: 'it returns false'. Refute it at one input. -/
def rexpParsesWrong : ChangeSpec := { name := "rexpParses", fn := fun _ => fun
  | [d] => { results := [.lit (.bool false)], args := [d] }
  | _ => none }
def RexpParsesWrongFalsely : Prop := rexpParsesRow.holds Try.pinned (OpenSpec.ofChange rexpParsesWrong)

/-- 'garnerlaw18.RexpJoins': WHATEVER THE INPUT: true; the input reads as it did. -/
def rexpJoinsSpec : ChangeSpec := { name := "rexpJoins", fn := fun _ => fun
  | [d1, d2] => { results := [.lit (.bool true)], args := [d1, d2] }
  | _ => none }
def rexpJoinsRow : OpenClaim := { program := "ytdmbgjpidlllcaa", sum := "d646c83d938cf16384b49824c0e05f3df304cb1dca11c7ae52be42dd57dbe836", func := "garner/garnerlaw18.RexpJoins", spec := "rexpJoins", inPlace := ["internal/bytealg.IndexByteString", "internal/bytealg.IndexString"], unfollowed := true, recurses := true, named := ["internal/bytealg.MaxLen"], apart := false }
def RexpJoinsSaid : Prop := rexpJoinsRow.holds Try.pinned (OpenSpec.ofChange rexpJoinsSpec)

/-- ITS FALSE NEIGHBOUR: 'it returns false'. Refute it at one input. -/
def rexpJoinsWrong : ChangeSpec := { name := "rexpJoins", fn := fun _ => fun
  | [d1, d2] => { results := [.lit (.bool false)], args := [d1, d2] }
  | _ => none }
def RexpJoinsWrongFalsely : Prop := rexpJoinsRow.holds Try.pinned (OpenSpec.ofChange rexpJoinsWrong)

/-- 'garnerlaw18.RexpSets': WHATEVER THE INPUT: true; the input reads as it did. -/
def rexpSetsSpec : ChangeSpec := { name := "rexpSets", fn := fun _ => fun
  | [d1, d2] => { results := [.lit (.bool true)], args := [d1, d2] }
  | _ => none }
def rexpSetsRow : OpenClaim := { program := "ytdmbgjpidlllcaa", sum := "d646c83d938cf16384b49824c0e05f3df304cb1dca11c7ae52be42dd57dbe836", func := "garner/garnerlaw18.RexpSets", spec := "rexpSets", inPlace := ["internal/bytealg.IndexByteString", "internal/bytealg.IndexString"], unfollowed := true, recurses := true, named := ["internal/bytealg.MaxLen"], apart := false }
def RexpSetsSaid : Prop := rexpSetsRow.holds Try.pinned (OpenSpec.ofChange rexpSetsSpec)

/-- ITS FALSE NEIGHBOUR: 'it returns false'. Refute it at one input. -/
def rexpSetsWrong : ChangeSpec := { name := "rexpSets", fn := fun _ => fun
  | [d1, d2] => { results := [.lit (.bool false)], args := [d1, d2] }
  | _ => none }
def RexpSetsWrongFalsely : Prop := rexpSetsRow.holds Try.pinned (OpenSpec.ofChange rexpSetsWrong)

/-- 'garnerlaw18.RexpLimits': WHATEVER THE INPUT: true; the input reads as it did. -/
def rexpLimitsSpec : ChangeSpec := { name := "rexpLimits", fn := fun _ => fun
  | [d1, d2] => { results := [.lit (.bool true)], args := [d1, d2] }
  | _ => none }
def rexpLimitsRow : OpenClaim := { program := "ytdmbgjpidlllcaa", sum := "d646c83d938cf16384b49824c0e05f3df304cb1dca11c7ae52be42dd57dbe836", func := "garner/garnerlaw18.RexpLimits", spec := "rexpLimits", inPlace := ["internal/bytealg.IndexByteString", "internal/bytealg.IndexString"], unfollowed := true, recurses := true, named := ["internal/bytealg.MaxLen"], apart := false }
def RexpLimitsSaid : Prop := rexpLimitsRow.holds Try.pinned (OpenSpec.ofChange rexpLimitsSpec)

/-- ITS FALSE NEIGHBOUR: 'it returns false'. Refute it at one input. -/
def rexpLimitsWrong : ChangeSpec := { name := "rexpLimits", fn := fun _ => fun
  | [d1, d2] => { results := [.lit (.bool false)], args := [d1, d2] }
  | _ => none }
def RexpLimitsWrongFalsely : Prop := rexpLimitsRow.holds Try.pinned (OpenSpec.ofChange rexpLimitsWrong)

/-- 'garnerlaw18.RexpRepeats': WHATEVER THE INPUT: true; the input reads as it did. -/
def rexpRepeatsSpec : ChangeSpec := { name := "rexpRepeats", fn := fun _ => fun
  | [d1, d2, d3] => { results := [.lit (.bool true)], args := [d1, d2, d3] }
  | _ => none }
def rexpRepeatsRow : OpenClaim := { program := "ytdmbgjpidlllcaa", sum := "d646c83d938cf16384b49824c0e05f3df304cb1dca11c7ae52be42dd57dbe836", func := "garner/garnerlaw18.RexpRepeats", spec := "rexpRepeats", inPlace := ["internal/bytealg.IndexByteString", "internal/bytealg.IndexString"], unfollowed := true, recurses := true, named := ["internal/bytealg.MaxLen"], apart := false }
def RexpRepeatsSaid : Prop := rexpRepeatsRow.holds Try.pinned (OpenSpec.ofChange rexpRepeatsSpec)

/-- ITS FALSE NEIGHBOUR: 'it returns false'. Refute it at one input. -/
def rexpRepeatsWrong : ChangeSpec := { name := "rexpRepeats", fn := fun _ => fun
  | [d1, d2, d3] => { results := [.lit (.bool false)], args := [d1, d2, d3] }
  | _ => none }
def RexpRepeatsWrongFalsely : Prop := rexpRepeatsRow.holds Try.pinned (OpenSpec.ofChange rexpRepeatsWrong)

/- THE SECOND FORM. 'bulk': how many values and letters a reading holds, each counted each time it is reached (what is shared counts as often as it is met; a slice's spare places count too). A statement '..UptoSaid' is the law's where the arguments, and the package variables that the reading takes, are together of bulk at most 1048576: NARROWER than '..Said'. Prove '..Said' where nothing that the law and all that it calls make is longer than what came in: it says more and counts as full. Else prove '..UptoSaid'. A law counts once. -/
mutual
def uptoBulk {H : Type} : DataW H → Nat
  | .lit (.string bytes) => bytes.length + 1
  | .lit _ => 1
  | .nil => 1
  | .ptr d => uptoBulk d + 1
  | .slice elems spare => uptoBulkAll elems + uptoBulkAll spare + 1
  | .agg parts => uptoBulkAll parts + 1
  | .iface _ d => uptoBulk d + 1
  | .map entries => uptoBulkEntries entries + 1
  | .held _ => 1
def uptoBulkAll {H : Type} : List (DataW H) → Nat
  | [] => 0
  | d :: r => uptoBulk d + uptoBulkAll r
def uptoBulkEntries {H : Type} : List (Lit × DataW H) → Nat
  | [] => 0
  | x :: r => uptoBulkEntry x + uptoBulkEntries r
def uptoBulkEntry {H : Type} : Lit × DataW H → Nat
  | (.string bytes, d) => bytes.length + uptoBulk d + 1
  | (_, d) => uptoBulk d + 1
 end
def uptoSmall : (H : Type) → List (DataW H) → Bool := fun _ ds => decide (uptoBulkAll ds ≤ 1048576)
def OpenSpec.upto (s : _root_.Go.ChangeSpec) : _root_.Go.OpenSpec := { _root_.Go.OpenSpec.ofChange s with cond := some uptoSmall }

/-- 'garnerlaw18.RexpParses', WHERE WHAT IT READS IS OF BULK AT MOST 1048576: true; the input reads as it did. -/
def rexpParsesUptoRow : OpenClaim := { program := "ytdmbgjpidlllcaa", sum := "d646c83d938cf16384b49824c0e05f3df304cb1dca11c7ae52be42dd57dbe836", func := "garner/garnerlaw18.RexpParses", spec := "rexpParses", inPlace := ["internal/bytealg.IndexByteString", "internal/bytealg.IndexString"], unfollowed := true, recurses := true, named := ["internal/bytealg.MaxLen"], apart := false, narrowed := true }
def RexpParsesUptoSaid : Prop := rexpParsesUptoRow.holds Try.pinned (OpenSpec.upto rexpParsesSpec)

/-- 'garnerlaw18.RexpJoins', WHERE WHAT IT READS IS OF BULK AT MOST 1048576: true; the input reads as it did. -/
def rexpJoinsUptoRow : OpenClaim := { program := "ytdmbgjpidlllcaa", sum := "d646c83d938cf16384b49824c0e05f3df304cb1dca11c7ae52be42dd57dbe836", func := "garner/garnerlaw18.RexpJoins", spec := "rexpJoins", inPlace := ["internal/bytealg.IndexByteString", "internal/bytealg.IndexString"], unfollowed := true, recurses := true, named := ["internal/bytealg.MaxLen"], apart := false, narrowed := true }
def RexpJoinsUptoSaid : Prop := rexpJoinsUptoRow.holds Try.pinned (OpenSpec.upto rexpJoinsSpec)

/-- 'garnerlaw18.RexpSets', WHERE WHAT IT READS IS OF BULK AT MOST 1048576: true; the input reads as it did. -/
def rexpSetsUptoRow : OpenClaim := { program := "ytdmbgjpidlllcaa", sum := "d646c83d938cf16384b49824c0e05f3df304cb1dca11c7ae52be42dd57dbe836", func := "garner/garnerlaw18.RexpSets", spec := "rexpSets", inPlace := ["internal/bytealg.IndexByteString", "internal/bytealg.IndexString"], unfollowed := true, recurses := true, named := ["internal/bytealg.MaxLen"], apart := false, narrowed := true }
def RexpSetsUptoSaid : Prop := rexpSetsUptoRow.holds Try.pinned (OpenSpec.upto rexpSetsSpec)

/-- 'garnerlaw18.RexpLimits', WHERE WHAT IT READS IS OF BULK AT MOST 1048576: true; the input reads as it did. -/
def rexpLimitsUptoRow : OpenClaim := { program := "ytdmbgjpidlllcaa", sum := "d646c83d938cf16384b49824c0e05f3df304cb1dca11c7ae52be42dd57dbe836", func := "garner/garnerlaw18.RexpLimits", spec := "rexpLimits", inPlace := ["internal/bytealg.IndexByteString", "internal/bytealg.IndexString"], unfollowed := true, recurses := true, named := ["internal/bytealg.MaxLen"], apart := false, narrowed := true }
def RexpLimitsUptoSaid : Prop := rexpLimitsUptoRow.holds Try.pinned (OpenSpec.upto rexpLimitsSpec)

/-- 'garnerlaw18.RexpRepeats', WHERE WHAT IT READS IS OF BULK AT MOST 1048576: true; the input reads as it did. -/
def rexpRepeatsUptoRow : OpenClaim := { program := "ytdmbgjpidlllcaa", sum := "d646c83d938cf16384b49824c0e05f3df304cb1dca11c7ae52be42dd57dbe836", func := "garner/garnerlaw18.RexpRepeats", spec := "rexpRepeats", inPlace := ["internal/bytealg.IndexByteString", "internal/bytealg.IndexString"], unfollowed := true, recurses := true, named := ["internal/bytealg.MaxLen"], apart := false, narrowed := true }
def RexpRepeatsUptoSaid : Prop := rexpRepeatsUptoRow.holds Try.pinned (OpenSpec.upto rexpRepeatsSpec)

end Rows
end Go.Proofs.Ytdmbgjpidlllcaa
