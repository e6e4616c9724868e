/- What is asked of the program's own Pack and Unpack: that they answer as the plain words pk and unp say, with memory of their own, and leave what was there. No conditions of its own: a proof of both for the landed program is another text. -/
import Derived.Test.YtokmoodiolnfiaaRefPk
import Derived.Test.YtokmoodiolnfiaaRefUn2
namespace Go.Proofs.Ytokmoodiolnfiaa.PkHas
open Go Go.RowKit Words Plain PkPlain PkSpec UnSpec RefPk RefUn

def PackAny : Prop := ∀ (l : List UInt64) (A : Option Addr) (n c : Nat) (w : World), n = l.length → Rd w w.heap.size A (l.map B64) → l.length ≤ c → c ≤ maxLen →
  Calls Try.prog 10 #[.slice A n c] w (PackPost l w)
def UnAny : Prop := ∀ (b : List UInt8) (A : Option Addr) (n c : Nat) (at_ : Int) (w : World), n = b.length → Rd w w.heap.size A (b.map B8) → b.length ≤ c → c ≤ maxLen → b.length ≤ 140737488355327 →
  Calls Try.prog 13 #[.slice A n c, .int .i64 at_] w (UnPost b at_ w)
/-- A row of bytes as a string. -/
theorem run_str {s : List UInt8} {B : Nat} (w : World) (A : Option Addr) (n c : Nat) (hn : n = s.length) (hr : Rd w B A (s.map B8)) : (convert 24 9 (.slice A n c)).run Try.prog w = .ok (.string ⟨s.toArray⟩) w := by
  subst hn
  exact run_bytes w 24 9 5 Try.underlying24 Try.underlying5 Try.underlying9 A s c B hr
end Go.Proofs.Ytokmoodiolnfiaa.PkHas
