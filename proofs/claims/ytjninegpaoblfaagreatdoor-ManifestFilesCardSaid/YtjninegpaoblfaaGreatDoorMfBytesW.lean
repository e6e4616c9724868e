/- ManifestBytes, walked over the contracts of the program's manifests. Conditions: the program's table is laid. -/
import Derived.Test.YtjninegpaoblfaaGreatDoorMfAwake
namespace Go.Proofs.YtjninegpaoblfaaGreatDoor.MfBytesW
open Go Go.RowKit Words AppN DkSpec MfSpec MfMem RefMf RefMw RefMr MfRead MfLaw MfAwake Tab Framed Reading

theorem wpost_open {m : Man} {w w' : World} {e : Ending} (h : WPost m w e w') : ∃ (A : Option Addr) (c : Nat), e = .returned (.tuple #[.slice A (write m).2.length c, .int .i64 ((write m).1 : Int)]) ∧ (write m).2.length ≤ c ∧ c ≤ maxLen ∧ Rd w' w'.heap.size A ((write m).2.map B8) ∧ Below w.heap.size w w' := by
  obtain ⟨v, h1, h2, h3⟩ := h
  obtain ⟨A, c, rfl, h4, h5, _⟩ := Put.own_slice h2
  exact ⟨A, c, h1, h4, h5, Rd.of_own h2, h3⟩
theorem rpost_open {r : Nat × Man} {w w' : World} {e : Ending} (h : RPost r w e w') (ho : Ok r.2) :
    ∃ (a b : Int) (c : UInt64) (d : Int) (l : List Sg) (A : Option Addr) (n k : Nat), e = .returned (.tuple #[.agg #[.int .i64 a, .int .i64 b, .int .u64 (c.toNat : Int), .int .i64 d, .slice A n k], .int .i64 (r.1 : Int)]) ∧ (⟨a, b, c, d, l⟩ : Man) = r.2 ∧ OkM w' (⟨a, b, c, d, l⟩, A, n, k) ∧ Below w.heap.size w w' := by
  obtain ⟨⟨⟨a, b, c, d, l⟩, A, n, k⟩, h1, h2, h3, h4⟩ := rpost_ok h ho
  exact ⟨a, b, c, d, l, A, n, k, h1, h2, h3, h4⟩
theorem rpost_own {r : Nat × Man} {w w' : World} {e : Ending} (h : RPost r w e w') :
    ∃ (a b : Int) (c : UInt64) (d : Int) (l : List Sg) (A : Option Addr) (n k : Nat), e = .returned (.tuple #[.agg #[.int .i64 a, .int .i64 b, .int .u64 (c.toNat : Int), .int .i64 d, .slice A n k], .int .i64 (r.1 : Int)]) ∧ (⟨a, b, c, d, l⟩ : Man) = r.2 ∧ w'.ownsRow w.heap.size 65 4 (.slice A n k) l.length (flatS l) ∧ Below w.heap.size w w' := by
  obtain ⟨⟨⟨a, b, c, d, l⟩, A, n, k⟩, h1, h2, h3, h4⟩ := h
  exact ⟨a, b, c, d, l, A, n, k, h1, h2, h3, h4⟩
theorem own_okM {w : World} {base : Nat} {m : Man} {A : Option Addr} {n k : Nat} (h : w.ownsRow base 65 4 (.slice A n k) m.segs.length (flatS m.segs)) (ho : Ok m) : OkM w (m, A, n, k) := by
  obtain ⟨A', c', h1, h2, _⟩ := own_sgs h
  simp only [Value.slice.injEq] at h1
  obtain ⟨rfl, rfl, rfl⟩ := h1
  exact ⟨h2, ho⟩
theorem own_put5 {w : World} {base n g : Nat} {e : TypeId} {v : Value} {xs : List Value} {a b c d f : Value} {size : Nat} (h : w.ownsRow base e size v n xs) (hg : g < base) :
    (((((w.setCell ⟨g, 0, none⟩ a).setCell ⟨g, 1, none⟩ b).setCell ⟨g, 2, none⟩ c).setCell ⟨g, 3, none⟩ d).setCell ⟨g, 4, none⟩ f).ownsRow base e size v n xs :=
  ownsRow_setCell_below (ownsRow_setCell_below (ownsRow_setCell_below (ownsRow_setCell_below (ownsRow_setCell_below h hg _) hg _) hg _) hg _) hg _

end Go.Proofs.YtjninegpaoblfaaGreatDoor.MfBytesW
