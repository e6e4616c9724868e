/- Words on rows of the call's own: kept while new memory is made, their base lowered, their address, two joined. Of no program. No conditions. -/
import Derived.Test.YtifndcjjlhjgiaaPut
namespace Go.Proofs.Ytifndcjjlhjgiaa.Own
open Go Go.RowKit Words Plain Put

theorem below_appw {w0 w w2 : World} {o : Obj} {n : Nat} {e : TypeId} {v : Value} {xs : List Value} (h : w.ownsRow w0.heap.size e 1 v n xs) (hb : Below w0.heap.size w0 w) (hg : (w.alloc o).grownBy w2 v.ownBlock) : Below w0.heap.size w0 w2 :=
  (hb.alloc hb.size o).grown hg (by have := hb.size; simp; omega) (own_lt h)
theorem only_of_below {a w : World} (h : Below a.heap.size a w) (row : Option Nat) : a.grownBy w row := ⟨h.os, h.tape, h.output, h.size, fun i hi _ => h.block i hi⟩
theorem own_keep {w w' : World} {base n : Nat} {e : TypeId} {v : Value} {xs : List Value} (h : w.ownsRow base e 1 v n xs) (hb : Below w.heap.size w w') : w'.ownsRow base e 1 v n xs :=
  h.kept (only_of_below hb none) (by cases v.ownBlock <;> simp)
theorem own_mono {w : World} {base base' n : Nat} {e : TypeId} {v : Value} {xs : List Value} (h : w.ownsRow base e 1 v n xs) (hb : base' ≤ base) : w.ownsRow base' e 1 v n xs :=
  ⟨h.1, h.2.imp id fun ⟨g, cap, cur, e1, hg, r⟩ => ⟨g, cap, cur, e1, Nat.le_trans hb hg, r⟩⟩
theorem own_addr {w : World} {base n : Nat} {e : TypeId} {v : Value} {xs : List Value} (h : w.ownsRow base e 1 v n xs) (hn : 0 < n) :
    ∃ b c, v = .slice (some ⟨b, 0, none⟩) n c ∧ base ≤ b ∧ b < w.heap.size ∧ ∀ j u, xs[j]? = some u → w.cell? ((⟨b, 0, none⟩ : Addr).add j) = some u := by
  obtain ⟨g, cap, hv, hb, hlt⟩ := h.form hn
  subst hv
  exact ⟨g, cap, rfl, hb, hlt, h.cells (g := g) rfl⟩
theorem own_join {w : World} {base : Nat} {e : TypeId} {v : Value} {d l : List UInt8} (h : w.ownsRow base e 1 v (d.length + l.length) (d.map B8 ++ l.map B8)) : w.ownsRow base e 1 v (d ++ l).length ((d ++ l).map B8) := by
  simpa using h
theorem own_one {w : World} {base : Nat} {e : TypeId} {v : Value} {d : List UInt8} {c : UInt8} (h : w.ownsRow base e 1 v (d.length + 1) (d.map B8 ++ [.int .u8 (c.toNat : Int)])) :
    w.ownsRow base e 1 v (d ++ [c]).length ((d ++ [c]).map B8) := by
  simpa [B8] using h
/-- Below, over a world between. -/
theorem below_step {w0 w w' : World} (h : Below w0.heap.size w0 w) (h' : Below w.heap.size w w') : Below w0.heap.size w0 w' := h.trans (h'.mono h.size)
theorem below_drewN (w : World) (n : Nat) : Below w.heap.size w (w.drewN n) := ⟨rfl, rfl, rfl, Nat.le_refl _, fun _ _ => rfl⟩
end Go.Proofs.Ytifndcjjlhjgiaa.Own
