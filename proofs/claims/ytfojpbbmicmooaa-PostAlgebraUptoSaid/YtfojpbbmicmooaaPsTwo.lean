/- And and Or of lists that lie in memory: two, one, none. Stage 11's PostAlgebra asks them. -/
import Derived.Test.YtfojpbbmicmooaaPsAwake
namespace Go.Proofs.Ytfojpbbmicmooaa.PsTwo
open Go Go.RowKit Words PkSpec PsSpec Km PsLaw PsAwake

/-- A new row of numbers, as a slice of numbers. -/
def NPost (w : World) (r : List UInt64) (e : Ending) (w' : World) : Prop :=
  ∃ q : P64, e = .returned (SV64 q) ∧ q.l = r ∧ w'.ownsRow w.heap.size 31 1 (SV64 q) r.length (r.map B64) ∧ Good64 w' q ∧ (∀ b off, q.A = some ⟨b, off, none⟩ → w.heap.size ≤ b ∧ b < w'.heap.size) ∧ Below w.heap.size w w'
theorem lpost {w0 w w' : World} {r : List UInt64} {e : Ending} (hb : Below w0.heap.size w0 w) (h : LPost w r e w') : NPost w0 r e w' := by
  obtain ⟨v, rfl, ho, h2⟩ := h
  have ho' : w'.ownsRow w0.heap.size 31 1 v r.length (r.map B64) := by
    refine ⟨ho.1, ?_⟩
    rcases ho.2 with h | ⟨g, cap, cur, e, h3, h4⟩
    · exact .inl h
    · exact .inr ⟨g, cap, cur, e, Nat.le_trans hb.size h3, h4⟩
  obtain ⟨A, c, rfl, hc, hm, hrd, hA⟩ := own_rd ho
  exact ⟨⟨A, c, r⟩, rfl, rfl, ho', ⟨hrd, hc, hm⟩, fun b off e => ⟨Nat.le_trans hb.size (hA b off e).1, (hA b off e).2⟩, hb.trans (h2.mono hb.size)⟩
theorem ns_pair (w : World) (p q : P64) (hp : Good64 w p) (hq : Good64 w q) : Ns (w.alloc (.cells #[SV64 p, SV64 q] 22)) (some ⟨w.heap.size, 0, none⟩) 2 2 [p, q] := by
  have hb := (Below.refl w.heap.size w).alloc (Nat.le_refl _) (.cells #[SV64 p, SV64 q] 22)
  refine ⟨rfl, Nat.le_refl _, by unfold maxLen; omega, Rd.made' w #[SV64 p, SV64 q] 22, fun z hz => ?_⟩
  rcases List.mem_cons.1 hz with rfl | hz
  · exact hp.below hb
  · rw [List.mem_singleton.1 hz]
    exact hq.below hb
theorem ns_one (w : World) (p : P64) (hp : Good64 w p) : Ns (w.alloc (.cells #[SV64 p] 22)) (some ⟨w.heap.size, 0, none⟩) 1 1 [p] := by
  have hb := (Below.refl w.heap.size w).alloc (Nat.le_refl _) (.cells #[SV64 p] 22)
  refine ⟨rfl, Nat.le_refl _, by unfold maxLen; omega, Rd.made' w #[SV64 p] 22, fun z hz => ?_⟩
  rw [List.mem_singleton.1 hz]
  exact hp.below hb
theorem ns_none (w : World) : Ns w none 0 0 [] := ⟨rfl, Nat.le_refl _, by unfold maxLen; omega, fun hn => absurd hn (by simp), fun _ h => by cases h⟩
variable {IterR : World → (Nat → Nat) → Nat → Nat → List UInt64 → Nat → Prop}
theorem and2 (P : Post IterR) (w : World) (p q : P64) (hp : Good64 w p) (hq : Good64 w q) (hl : p.l.length + q.l.length ≤ 16777216) :
    Calls Try.prog 11 #[.slice (some ⟨w.heap.size, 0, none⟩) 2 2] (w.alloc (.cells #[SV64 p, SV64 q] 22)) (NPost w (andL [p.l, q.l])) :=
  (P.and_ _ _ _ _ _ (ns_pair w p q hp hq) (by simp [nums]; omega) (by omega)).mono fun e w' h => lpost ((Below.refl w.heap.size w).alloc (Nat.le_refl _) _) h
theorem or2 (P : Post IterR) (w : World) (p q : P64) (hp : Good64 w p) (hq : Good64 w q) (hl : p.l.length + q.l.length ≤ 16777216) :
    Calls Try.prog 12 #[.slice (some ⟨w.heap.size, 0, none⟩) 2 2] (w.alloc (.cells #[SV64 p, SV64 q] 22)) (NPost w (orL [p.l, q.l])) :=
  (P.or_ _ _ _ _ _ (ns_pair w p q hp hq) (by simp [nums]; omega) (by omega)).mono fun e w' h => lpost ((Below.refl w.heap.size w).alloc (Nat.le_refl _) _) h
theorem or1 (P : Post IterR) (w : World) (p : P64) (hp : Good64 w p) (hl : p.l.length ≤ 16777216) :
    Calls Try.prog 12 #[.slice (some ⟨w.heap.size, 0, none⟩) 1 1] (w.alloc (.cells #[SV64 p] 22)) (NPost w (orL [p.l])) :=
  (P.or_ _ _ _ _ _ (ns_one w p hp) (by simp [nums]; omega) (by omega)).mono fun e w' h => lpost ((Below.refl w.heap.size w).alloc (Nat.le_refl _) _) h
theorem and0 (P : Post IterR) (w : World) : Calls Try.prog 11 #[.slice none 0 0] w (NPost w []) :=
  (P.and_ _ _ _ _ _ (ns_none w) (by simp [nums]) (by omega)).mono fun e w' h => lpost (Below.refl w.heap.size w) h
theorem or0 (P : Post IterR) (w : World) : Calls Try.prog 12 #[.slice none 0 0] w (NPost w []) :=
  (P.or_ _ _ _ _ _ (ns_none w) (by simp [nums]) (by omega)).mono fun e w' h => lpost (Below.refl w.heap.size w) h
/-- The lengths of And and Or of two: at most both. -/
theorem and2_len (a b : List UInt64) : (andL [a, b]).length ≤ a.length + b.length := by have := and_len [a, b]; simpa using this
theorem or2_len (a b : List UInt64) : (orL [a, b]).length ≤ a.length + b.length := by have := or_len [a, b]; simpa using this
/-- Equal lists are the same, wherever they lie. -/
theorem same_of (w : World) (p q : P64) (hp : Good64 w p) (hq : Good64 w q) (h : p.l = q.l) :
    Calls Try.prog 13 #[SV64 p, SV64 q] w fun e w' => e = .returned (.bool true) ∧ ∃ nq, w' = w.drewN nq :=
  Need.same_eq p.l p.A q.A p.l.length q.l.length p.c q.c _ _ _ rfl (by rw [h]) hp.1 (by rw [h]; exact hq.1) (by have := hp.2.1; have := hp.2.2; omega)
end Go.Proofs.Ytfojpbbmicmooaa.PsTwo
