/-
  No cell of these rows narrows 'for every input' (looked for: loops, veiled, ifaces, maps, wideKeys, modest, calm, conditions, laid).
  DERIVED. THE GIVEN ROWS OF THIS SEAT. 3 by the template 'for every input the law returns true; each argument reads behind the call as it read before'; 0 by the template 'total and deterministic' (their statements: YtfojpbbmicmooaaTotals.lean).
  GIVEN WITH THE SEED: the statements are not yours to turn. If you find one false, say at which input.
  Laid BY PROGRAM, IN A SANDBOX (cutbox-rows.mjs): the forced cells as the released guide's own fill.sh prints them over the translation dec34a9ceebb1e9b… (all of the seat's roots in one cut). By AI agents, Wed Nov 11 2026. No macro, syntax, notation, axiom, sorry.
-/
import Derived.Test.YtfojpbbmicmooaaChecked
import GoSem.Claim
import GoSem.ClaimJoined
import GoSem.ClaimMapViews
import Derived.JoinedTies
import Derived.KernelRfl
namespace Go.Proofs.Ytfojpbbmicmooaa
/- THE CELL 'sum', in the pinned program and in every row, IS THE sha256 OF THE DUMP (.gsa) THAT YtfojpbbmicmooaaProg.lean LOADS. Nothing in Lean hashes anything: it is a label: what it is worth is what the hold of that sum in a sandbox is worth. -/
noncomputable def Try.pinned : Pinned := { name := "ytfojpbbmicmooaa", sum := "dec34a9ceebb1e9bf4cdf567d07450d92b6295986289b663595e6f0ae9784af7", checked := Try.checked }
namespace Rows
def none {H : Type} : Left H := { results := [], args := [] }

/-- 'garnerlaw11.PostSeeks': WHATEVER THE INPUT: true; the input reads as it did. -/
def postSeeksSpec : ChangeSpec := { name := "postSeeks", fn := fun _ => fun
  | [d1, d2] => { results := [.lit (.bool true)], args := [d1, d2] }
  | _ => none }
def postSeeksRow : OpenClaim := { program := "ytfojpbbmicmooaa", sum := "dec34a9ceebb1e9bf4cdf567d07450d92b6295986289b663595e6f0ae9784af7", func := "garner/garnerlaw11.PostSeeks", spec := "postSeeks", unfollowed := true, recurses := true, apart := false }
def PostSeeksSaid : Prop := postSeeksRow.holds Try.pinned (OpenSpec.ofChange postSeeksSpec)

/-- ITS FALSE NEIGHBOUR: 'it returns false'. Refute it at one input. -/
def postSeeksWrong : ChangeSpec := { name := "postSeeks", fn := fun _ => fun
  | [d1, d2] => { results := [.lit (.bool false)], args := [d1, d2] }
  | _ => none }
def PostSeeksWrongFalsely : Prop := postSeeksRow.holds Try.pinned (OpenSpec.ofChange postSeeksWrong)

/-- 'garnerlaw11.PostAlgebra': WHATEVER THE INPUT: true; the input reads as it did. -/
def postAlgebraSpec : ChangeSpec := { name := "postAlgebra", fn := fun _ => fun
  | [d1, d2, d3] => { results := [.lit (.bool true)], args := [d1, d2, d3] }
  | _ => none }
def postAlgebraRow : OpenClaim := { program := "ytfojpbbmicmooaa", sum := "dec34a9ceebb1e9bf4cdf567d07450d92b6295986289b663595e6f0ae9784af7", func := "garner/garnerlaw11.PostAlgebra", spec := "postAlgebra", unfollowed := true, recurses := true, apart := false }
def PostAlgebraSaid : Prop := postAlgebraRow.holds Try.pinned (OpenSpec.ofChange postAlgebraSpec)

/-- ITS FALSE NEIGHBOUR: 'it returns false'. Refute it at one input. -/
def postAlgebraWrong : ChangeSpec := { name := "postAlgebra", fn := fun _ => fun
  | [d1, d2, d3] => { results := [.lit (.bool false)], args := [d1, d2, d3] }
  | _ => none }
def PostAlgebraWrongFalsely : Prop := postAlgebraRow.holds Try.pinned (OpenSpec.ofChange postAlgebraWrong)

/-- 'garnerlaw11.PostKeeps': WHATEVER THE INPUT: true; the input reads as it did. -/
def postKeepsSpec : ChangeSpec := { name := "postKeeps", fn := fun _ => fun
  | [d] => { results := [.lit (.bool true)], args := [d] }
  | _ => none }
def postKeepsRow : OpenClaim := { program := "ytfojpbbmicmooaa", sum := "dec34a9ceebb1e9bf4cdf567d07450d92b6295986289b663595e6f0ae9784af7", func := "garner/garnerlaw11.PostKeeps", spec := "postKeeps", unfollowed := true, recurses := true, apart := false }
def PostKeepsSaid : Prop := postKeepsRow.holds Try.pinned (OpenSpec.ofChange postKeepsSpec)

/-- ITS FALSE NEIGHBOUR: 'it returns false'. Refute it at one input. -/
def postKeepsWrong : ChangeSpec := { name := "postKeeps", fn := fun _ => fun
  | [d] => { results := [.lit (.bool false)], args := [d] }
  | _ => none }
def PostKeepsWrongFalsely : Prop := postKeepsRow.holds Try.pinned (OpenSpec.ofChange postKeepsWrong)

/- THE SECOND FORM. 'bulk': how many values and letters a reading holds, each counted each time it is reached (what is shared counts as often as it is met; a slice's spare places count too). A statement '..UptoSaid' is the law's where the arguments, and the package variables that the reading takes, are together of bulk at most 1048576: NARROWER than '..Said'. Prove '..Said' where nothing that the law and all that it calls make is longer than what came in: it says more and counts as full. Else prove '..UptoSaid'. A law counts once. -/
mutual
def uptoBulk {H : Type} : DataW H → Nat
  | .lit (.string bytes) => bytes.length + 1
  | .lit _ => 1
  | .nil => 1
  | .ptr d => uptoBulk d + 1
  | .slice elems spare => uptoBulkAll elems + uptoBulkAll spare + 1
  | .agg parts => uptoBulkAll parts + 1
  | .iface _ d => uptoBulk d + 1
  | .map entries => uptoBulkEntries entries + 1
  | .held _ => 1
def uptoBulkAll {H : Type} : List (DataW H) → Nat
  | [] => 0
  | d :: r => uptoBulk d + uptoBulkAll r
def uptoBulkEntries {H : Type} : List (Lit × DataW H) → Nat
  | [] => 0
  | x :: r => uptoBulkEntry x + uptoBulkEntries r
def uptoBulkEntry {H : Type} : Lit × DataW H → Nat
  | (.string bytes, d) => bytes.length + uptoBulk d + 1
  | (_, d) => uptoBulk d + 1
 end
def uptoSmall : (H : Type) → List (DataW H) → Bool := fun _ ds => decide (uptoBulkAll ds ≤ 1048576)
def OpenSpec.upto (s : _root_.Go.ChangeSpec) : _root_.Go.OpenSpec := { _root_.Go.OpenSpec.ofChange s with cond := some uptoSmall }

/-- 'garnerlaw11.PostSeeks', WHERE WHAT IT READS IS OF BULK AT MOST 1048576: true; the input reads as it did. -/
def postSeeksUptoRow : OpenClaim := { program := "ytfojpbbmicmooaa", sum := "dec34a9ceebb1e9bf4cdf567d07450d92b6295986289b663595e6f0ae9784af7", func := "garner/garnerlaw11.PostSeeks", spec := "postSeeks", unfollowed := true, recurses := true, apart := false, narrowed := true }
def PostSeeksUptoSaid : Prop := postSeeksUptoRow.holds Try.pinned (OpenSpec.upto postSeeksSpec)

/-- 'garnerlaw11.PostAlgebra', WHERE WHAT IT READS IS OF BULK AT MOST 1048576: true; the input reads as it did. -/
def postAlgebraUptoRow : OpenClaim := { program := "ytfojpbbmicmooaa", sum := "dec34a9ceebb1e9bf4cdf567d07450d92b6295986289b663595e6f0ae9784af7", func := "garner/garnerlaw11.PostAlgebra", spec := "postAlgebra", unfollowed := true, recurses := true, apart := false, narrowed := true }
def PostAlgebraUptoSaid : Prop := postAlgebraUptoRow.holds Try.pinned (OpenSpec.upto postAlgebraSpec)

/-- 'garnerlaw11.PostKeeps', WHERE WHAT IT READS IS OF BULK AT MOST 1048576: true; the input reads as it did. -/
def postKeepsUptoRow : OpenClaim := { program := "ytfojpbbmicmooaa", sum := "dec34a9ceebb1e9bf4cdf567d07450d92b6295986289b663595e6f0ae9784af7", func := "garner/garnerlaw11.PostKeeps", spec := "postKeeps", unfollowed := true, recurses := true, apart := false, narrowed := true }
def PostKeepsUptoSaid : Prop := postKeepsUptoRow.holds Try.pinned (OpenSpec.upto postKeepsSpec)

end Rows
end Go.Proofs.Ytfojpbbmicmooaa
