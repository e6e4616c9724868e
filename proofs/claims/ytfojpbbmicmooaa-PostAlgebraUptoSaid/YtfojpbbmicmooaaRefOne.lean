/- The contract of the document's own writing of one number: new memory that holds its shortest form; nothing that was there has changed. No conditions but 64 bits. -/
import Derived.Test.YtfojpbbmicmooaaPut
namespace Go.Proofs.Ytfojpbbmicmooaa.RefPut
open Go Go.RowKit Words Plain Put

theorem only_of_below {a w : World} (h : Below a.heap.size a w) (row : Option Nat) : a.grownBy w row := ⟨h.os, h.tape, h.output, h.size, fun i hi _ => h.block i hi⟩
/-- A row of the call's own stays while new memory is made. -/
theorem own_keep {w w' : World} {base n : Nat} {e : TypeId} {v : Value} {xs : List Value} (h : w.ownsRow base e 1 v n xs) (hb : Below w.heap.size w w') : w'.ownsRow base e 1 v n xs :=
  h.kept (only_of_below hb none) (by cases v.ownBlock <;> simp)
theorem own_mono {w : World} {base base' n : Nat} {e : TypeId} {v : Value} {xs : List Value} (h : w.ownsRow base e 1 v n xs) (hb : base' ≤ base) : w.ownsRow base' e 1 v n xs :=
  ⟨h.1, h.2.imp id fun ⟨g, cap, cur, e1, hg, r⟩ => ⟨g, cap, cur, e1, Nat.le_trans hb hg, r⟩⟩
theorem own_addr {w : World} {base n : Nat} {e : TypeId} {v : Value} {xs : List Value} (h : w.ownsRow base e 1 v n xs) (hn : 0 < n) :
    ∃ b c, v = .slice (some ⟨b, 0, none⟩) n c ∧ base ≤ b ∧ b < w.heap.size ∧ ∀ j u, xs[j]? = some u → w.cell? ((⟨b, 0, none⟩ : Addr).add j) = some u := by
  obtain ⟨g, cap, hv, hb, hlt⟩ := h.form hn
  subst hv
  exact ⟨g, cap, rfl, hb, hlt, h.cells (g := g) rfl⟩

theorem own_join {w : World} {base : Nat} {e : TypeId} {v : Value} {d l : List UInt8} (h : w.ownsRow base e 1 v (d.length + l.length) (d.map B8 ++ l.map B8)) : w.ownsRow base e 1 v (d ++ l).length ((d ++ l).map B8) := by
  simpa using h

theorem own_cons {w : World} {base : Nat} {e : TypeId} {v : Value} {l : List UInt8} {c : UInt8} {x : Int} {m : Nat} (hx : x = (c.toNat : Int)) (hm : m = 1 + l.length) (h : w.ownsRow base e 1 v m (.int .u8 x :: l.map B8)) : w.ownsRow base e 1 v (c :: l).length ((c :: l).map B8) := by
  subst hx hm
  rw [List.length_cons, Nat.add_comm]
  exact h

theorem byte_more (n : Nat) : 128 + (n : Int) % 128 = (((n % 128 + 128).toUInt8.toNat : Nat) : Int) := by
  simp
  omega

end Go.Proofs.Ytfojpbbmicmooaa.RefPut
