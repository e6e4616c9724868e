/- The program's six calls of record keep what the statements ask of them. No conditions. -/
import Derived.Test.YtahbaifbihpppaaRcLaw
import Derived.Test.YtahbaifbihpppaaRpCmp
import Derived.Test.YtahbaifbihpppaaRpPuts
import Derived.Test.YtahbaifbihpppaaRpGa
namespace Go.Proofs.Ytahbaifbihpppaa.RcProg
open Go Go.RowKit RcLaw
theorem rcd : Rcd := ⟨RpCheck.check_any, RpPut.put_any, fun w b A c at_ _ _ h h1 h2 => RpGa.pget_any w b A c at_ h h1 h2, RpAll.putall_any, fun w b A c h h1 h2 => (RpGa.getall_any w b A c h h1 h2).mono fun _ _ h => RpGa.gn_ga h, fun w a b _ _ => RpCmp.compare_any w a b⟩
end Go.Proofs.Ytahbaifbihpppaa.RcProg
