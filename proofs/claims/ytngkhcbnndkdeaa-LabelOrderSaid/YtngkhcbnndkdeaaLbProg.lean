/- The program's five calls of package label, by contracts. Conditions: those of each. -/
import Derived.Test.YtngkhcbnndkdeaaLbLaw
import Derived.Test.YtngkhcbnndkdeaaLpCanon
import Derived.Test.YtngkhcbnndkdeaaLpFind
import Derived.Test.YtngkhcbnndkdeaaLpWrite
import Derived.Test.YtngkhcbnndkdeaaLpRead
import Derived.Test.YtngkhcbnndkdeaaLbOpen
namespace Go.Proofs.Ytngkhcbnndkdeaa.LbProg
open Go Go.RowKit Words Less LbSpec LbText LbMem LbLaw Ml

/-- Each row's first world has it. -/
theorem ml_of {w : World} (h : w.ShapedOpen Try.prog) : ML w := Try.laysM145.s1_3 w h
theorem lbl : Lbl where
  canon := fun w l A c m h => LpCanon.pcanon_any w l A c m h
  find := fun w l A c m n h hs => LpFind.pfind_any w l A c m n h hs
  compare := fun w a b A B m n c d ha hb => LpCmp.pcompare_any w a b A B m n c d ha hb
  write := fun w l A c m h hw => LpWrite.pwrite_any w l A c m h hw
  read := fun w s hM hs => by
    have h := LpRead.pread_any s.data.toList w hM (by simpa using hs)
    rw [show S8 s.data.toList = .string s by unfold S8; simp] at h
    exact h
end Go.Proofs.Ytngkhcbnndkdeaa.LbProg
