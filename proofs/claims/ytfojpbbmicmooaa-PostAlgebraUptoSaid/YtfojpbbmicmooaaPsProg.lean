/- The program's own postings keep the contracts that stage 11's statements ask ('Post'). No conditions but those of the contracts. -/
import Derived.Test.YtfojpbbmicmooaaPgIt
import Derived.Test.YtfojpbbmicmooaaPgOrs
import Derived.Test.YtfojpbbmicmooaaPgWr
namespace Go.Proofs.Ytfojpbbmicmooaa.PsProg
open Go PsLaw

abbrev IterR := PgIt.IterR
theorem post : Post IterR where
  keep := fun h h1 h2 h3 => PgIt.IterR.keep h h1 h2 h3
  write := PgWr.write_any
  opens := PgIt.opens_any
  len := PgIt.len_any
  next := PgIt.next_any
  seek := PgIt.seek_any
  seekNil := PgIt.seek_nil
  lenNil := PgIt.len_nil
  and_ := fun w ps A n c h1 h2 h3 => PgAnd.and_any w ps A n c h1 h2 h3
  or_ := fun w ps A n c h1 h2 h3 => PgOr.or_any w ps A n c h1 h2 h3
end Go.Proofs.Ytfojpbbmicmooaa.PsProg
