/- The contracts of the document's Same and of the statements' own within, over lists of texts. Conditions: both slices read as the lists. -/
import Derived.Test.YteaafkadjglnhaaLess
import Derived.Deep.QuietTactic
import Derived.BigQuiet
import Derived.BigCall
import Derived.Lib.Hide
namespace Go.Proofs.Yteaafkadjglnhaa.TxSame
open Go Go.RowKit Words Less

theorem ret_bool {a b : Bool} (h : a = b) : Ending.returned (.bool a) = .returned (.bool b) := by rw [h]
def Rel (la lb : List (List UInt8)) (w : World) (i : Value) (wr : World) : Prop := ∃ k : Nat, k ≤ la.length ∧ i = .int .i64 (k : Int) ∧ Hid (la.take k = lb.take k) ∧ Hid (Below w.heap.size w wr) ∧ Hid (wr.heap = w.heap)

theorem below_drewN {B : Nat} {a w : World} (h : Below B a w) (n : Nat) : Below B a (w.drewN n) := ⟨h.os, h.tape, h.output, h.size, h.block⟩

def isin (x : List UInt8) (l : List (List UInt8)) : Bool := l.any fun y => x == y
def IRel (x : List UInt8) (lb : List (List UInt8)) (w : World) (v i : Value) (wr : World) : Prop := ∃ k : Nat, k ≤ lb.length ∧ i = .int .i64 (k : Int) ∧ v = .bool (isin x (lb.take k)) ∧ Hid (Below w.heap.size w wr) ∧ Hid (wr.heap = w.heap)
def ORel (la lb : List (List UInt8)) (w : World) (i : Value) (wr : World) : Prop := ∃ k : Nat, k ≤ la.length ∧ i = .int .i64 (k : Int) ∧ Hid ((la.take k).all (fun x => isin x lb) = true) ∧ Hid (Below w.heap.size w wr) ∧ Hid (wr.heap = w.heap)
theorem isin_next {x : List UInt8} {l : List (List UInt8)} {k : Nat} (h : k < l.length) : isin x (l.take (k + 1)) = (isin x (l.take k) || x == l[k]) := by
  unfold isin
  rw [List.take_succ_eq_append_getElem h, List.any_append]
  simp

end Go.Proofs.Yteaafkadjglnhaa.TxSame
