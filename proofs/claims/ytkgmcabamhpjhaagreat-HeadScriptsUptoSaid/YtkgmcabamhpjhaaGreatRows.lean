/-
  No cell of these rows narrows 'for every input' (looked for: loops, veiled, ifaces, maps, wideKeys, modest, calm, conditions, laid).
  DERIVED. THE GIVEN ROWS OF THIS SEAT. 4 by the template 'for every input the law returns true; each argument reads behind the call as it read before'; 0 by the template 'total and deterministic' (their statements: YtkgmcabamhpjhaaGreatTotals.lean).
  GIVEN WITH THE SEED: the statements are not yours to turn. If you find one false, say at which input.
  Laid BY PROGRAM, IN A SANDBOX (cutbox-rows.mjs): the forced cells as the released guide's own fill.sh prints them over the translation 07742c117c249646… (all of the seat's roots in one cut). By AI agents, Wed Nov 11 2026. No macro, syntax, notation, axiom, sorry.
-/
import Derived.Test.YtkgmcabamhpjhaaGreatChecked
import GoSem.Claim
import GoSem.ClaimJoined
import GoSem.ClaimMapViews
import Derived.JoinedTies
import Derived.KernelRfl
namespace Go.Proofs.YtkgmcabamhpjhaaGreat
/- THE CELL 'sum', in the pinned program and in every row, IS THE sha256 OF THE DUMP (.gsa) THAT YtkgmcabamhpjhaaGreatProg.lean LOADS. Nothing in Lean hashes anything: it is a label: what it is worth is what the hold of that sum in a sandbox is worth. -/
noncomputable def Tryz.pinned : Pinned := { name := "ytkgmcabamhpjhaagreat", sum := "07742c117c249646756e2e13eb6e989db43a9ee5fbc502d1a7dd207e52f3f102", checked := Tryz.checked }
namespace Rows
def none {H : Type} : Left H := { results := [], args := [] }

/-- 'garnerlaw13.HeadScripts': WHATEVER THE INPUT: true; the input reads as it did. -/
def headScriptsSpec : ChangeSpec := { name := "headScripts", fn := fun _ => fun
  | [d1, d2] => { results := [.lit (.bool true)], args := [d1, d2] }
  | _ => none }
def headScriptsRow : OpenClaim := { program := "ytkgmcabamhpjhaagreat", sum := "07742c117c249646756e2e13eb6e989db43a9ee5fbc502d1a7dd207e52f3f102", func := "garner/garnerlaw13.HeadScripts", spec := "headScripts", inPlace := ["internal/abi.NoEscape", "internal/bytealg.MakeNoZero"], unfollowed := true, recurses := true, apart := false }
def HeadScriptsSaid : Prop := headScriptsRow.holds Tryz.pinned (OpenSpec.ofChange headScriptsSpec)

/-- ITS FALSE NEIGHBOUR: 'it returns false'. Refute it at one input. -/
def headScriptsWrong : ChangeSpec := { name := "headScripts", fn := fun _ => fun
  | [d1, d2] => { results := [.lit (.bool false)], args := [d1, d2] }
  | _ => none }
def HeadScriptsWrongFalsely : Prop := headScriptsRow.holds Tryz.pinned (OpenSpec.ofChange headScriptsWrong)

/-- 'garnerlaw13.HeadTerms': WHATEVER THE INPUT: true; the input reads as it did. -/
def headTermsSpec : ChangeSpec := { name := "headTerms", fn := fun _ => fun
  | [d] => { results := [.lit (.bool true)], args := [d] }
  | _ => none }
def headTermsRow : OpenClaim := { program := "ytkgmcabamhpjhaagreat", sum := "07742c117c249646756e2e13eb6e989db43a9ee5fbc502d1a7dd207e52f3f102", func := "garner/garnerlaw13.HeadTerms", spec := "headTerms", inPlace := ["internal/abi.NoEscape", "internal/bytealg.MakeNoZero"], unfollowed := true, recurses := true, apart := false }
def HeadTermsSaid : Prop := headTermsRow.holds Tryz.pinned (OpenSpec.ofChange headTermsSpec)

/-- ITS FALSE NEIGHBOUR: 'it returns false'. Refute it at one input. -/
def headTermsWrong : ChangeSpec := { name := "headTerms", fn := fun _ => fun
  | [d] => { results := [.lit (.bool false)], args := [d] }
  | _ => none }
def HeadTermsWrongFalsely : Prop := headTermsRow.holds Tryz.pinned (OpenSpec.ofChange headTermsWrong)

/-- 'garnerlaw13.HeadFinds': WHATEVER THE INPUT: true; the input reads as it did. -/
def headFindsSpec : ChangeSpec := { name := "headFinds", fn := fun _ => fun
  | [d1, d2, d3] => { results := [.lit (.bool true)], args := [d1, d2, d3] }
  | _ => none }
def headFindsRow : OpenClaim := { program := "ytkgmcabamhpjhaagreat", sum := "07742c117c249646756e2e13eb6e989db43a9ee5fbc502d1a7dd207e52f3f102", func := "garner/garnerlaw13.HeadFinds", spec := "headFinds", inPlace := ["internal/abi.NoEscape", "internal/bytealg.MakeNoZero"], unfollowed := true, recurses := true, apart := false }
def HeadFindsSaid : Prop := headFindsRow.holds Tryz.pinned (OpenSpec.ofChange headFindsSpec)

/-- ITS FALSE NEIGHBOUR: 'it returns false'. Refute it at one input. -/
def headFindsWrong : ChangeSpec := { name := "headFinds", fn := fun _ => fun
  | [d1, d2, d3] => { results := [.lit (.bool false)], args := [d1, d2, d3] }
  | _ => none }
def HeadFindsWrongFalsely : Prop := headFindsRow.holds Tryz.pinned (OpenSpec.ofChange headFindsWrong)

/-- 'garnerlaw13.HeadTakes': WHATEVER THE INPUT: true; the input reads as it did. -/
def headTakesSpec : ChangeSpec := { name := "headTakes", fn := fun _ => fun
  | [d1, d2] => { results := [.lit (.bool true)], args := [d1, d2] }
  | _ => none }
def headTakesRow : OpenClaim := { program := "ytkgmcabamhpjhaagreat", sum := "07742c117c249646756e2e13eb6e989db43a9ee5fbc502d1a7dd207e52f3f102", func := "garner/garnerlaw13.HeadTakes", spec := "headTakes", inPlace := ["internal/abi.NoEscape", "internal/bytealg.MakeNoZero"], unfollowed := true, recurses := true, apart := false }
def HeadTakesSaid : Prop := headTakesRow.holds Tryz.pinned (OpenSpec.ofChange headTakesSpec)

/-- ITS FALSE NEIGHBOUR: 'it returns false'. Refute it at one input. -/
def headTakesWrong : ChangeSpec := { name := "headTakes", fn := fun _ => fun
  | [d1, d2] => { results := [.lit (.bool false)], args := [d1, d2] }
  | _ => none }
def HeadTakesWrongFalsely : Prop := headTakesRow.holds Tryz.pinned (OpenSpec.ofChange headTakesWrong)

/- THE SECOND FORM. 'bulk': how many values and letters a reading holds, each counted each time it is reached (what is shared counts as often as it is met; a slice's spare places count too). A statement '..UptoSaid' is the law's where the arguments, and the package variables that the reading takes, are together of bulk at most 1048576: NARROWER than '..Said'. Prove '..Said' where nothing that the law and all that it calls make is longer than what came in: it says more and counts as full. Else prove '..UptoSaid'. A law counts once. -/
mutual
def uptoBulk {H : Type} : DataW H → Nat
  | .lit (.string bytes) => bytes.length + 1
  | .lit _ => 1
  | .nil => 1
  | .ptr d => uptoBulk d + 1
  | .slice elems spare => uptoBulkAll elems + uptoBulkAll spare + 1
  | .agg parts => uptoBulkAll parts + 1
  | .iface _ d => uptoBulk d + 1
  | .map entries => uptoBulkEntries entries + 1
  | .held _ => 1
def uptoBulkAll {H : Type} : List (DataW H) → Nat
  | [] => 0
  | d :: r => uptoBulk d + uptoBulkAll r
def uptoBulkEntries {H : Type} : List (Lit × DataW H) → Nat
  | [] => 0
  | x :: r => uptoBulkEntry x + uptoBulkEntries r
def uptoBulkEntry {H : Type} : Lit × DataW H → Nat
  | (.string bytes, d) => bytes.length + uptoBulk d + 1
  | (_, d) => uptoBulk d + 1
 end
def uptoSmall : (H : Type) → List (DataW H) → Bool := fun _ ds => decide (uptoBulkAll ds ≤ 1048576)
def OpenSpec.upto (s : _root_.Go.ChangeSpec) : _root_.Go.OpenSpec := { _root_.Go.OpenSpec.ofChange s with cond := some uptoSmall }

/-- 'garnerlaw13.HeadScripts', WHERE WHAT IT READS IS OF BULK AT MOST 1048576: true; the input reads as it did. -/
def headScriptsUptoRow : OpenClaim := { program := "ytkgmcabamhpjhaagreat", sum := "07742c117c249646756e2e13eb6e989db43a9ee5fbc502d1a7dd207e52f3f102", func := "garner/garnerlaw13.HeadScripts", spec := "headScripts", inPlace := ["internal/abi.NoEscape", "internal/bytealg.MakeNoZero"], unfollowed := true, recurses := true, apart := false, narrowed := true }
def HeadScriptsUptoSaid : Prop := headScriptsUptoRow.holds Tryz.pinned (OpenSpec.upto headScriptsSpec)

/-- 'garnerlaw13.HeadTerms', WHERE WHAT IT READS IS OF BULK AT MOST 1048576: true; the input reads as it did. -/
def headTermsUptoRow : OpenClaim := { program := "ytkgmcabamhpjhaagreat", sum := "07742c117c249646756e2e13eb6e989db43a9ee5fbc502d1a7dd207e52f3f102", func := "garner/garnerlaw13.HeadTerms", spec := "headTerms", inPlace := ["internal/abi.NoEscape", "internal/bytealg.MakeNoZero"], unfollowed := true, recurses := true, apart := false, narrowed := true }
def HeadTermsUptoSaid : Prop := headTermsUptoRow.holds Tryz.pinned (OpenSpec.upto headTermsSpec)

/-- 'garnerlaw13.HeadFinds', WHERE WHAT IT READS IS OF BULK AT MOST 1048576: true; the input reads as it did. -/
def headFindsUptoRow : OpenClaim := { program := "ytkgmcabamhpjhaagreat", sum := "07742c117c249646756e2e13eb6e989db43a9ee5fbc502d1a7dd207e52f3f102", func := "garner/garnerlaw13.HeadFinds", spec := "headFinds", inPlace := ["internal/abi.NoEscape", "internal/bytealg.MakeNoZero"], unfollowed := true, recurses := true, apart := false, narrowed := true }
def HeadFindsUptoSaid : Prop := headFindsUptoRow.holds Tryz.pinned (OpenSpec.upto headFindsSpec)

/-- 'garnerlaw13.HeadTakes', WHERE WHAT IT READS IS OF BULK AT MOST 1048576: true; the input reads as it did. -/
def headTakesUptoRow : OpenClaim := { program := "ytkgmcabamhpjhaagreat", sum := "07742c117c249646756e2e13eb6e989db43a9ee5fbc502d1a7dd207e52f3f102", func := "garner/garnerlaw13.HeadTakes", spec := "headTakes", inPlace := ["internal/abi.NoEscape", "internal/bytealg.MakeNoZero"], unfollowed := true, recurses := true, apart := false, narrowed := true }
def HeadTakesUptoSaid : Prop := headTakesUptoRow.holds Tryz.pinned (OpenSpec.upto headTakesSpec)

end Rows
end Go.Proofs.YtkgmcabamhpjhaaGreat
