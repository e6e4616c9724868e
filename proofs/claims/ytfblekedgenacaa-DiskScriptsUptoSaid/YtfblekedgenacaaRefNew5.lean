/- The contract of the document's own New. Conditions: none. -/
import Derived.Test.YtfblekedgenacaaRefRen5
namespace Go.Proofs.Ytfblekedgenacaa.RefNew5
open Go Go.RowKit Words DkSpec RefDisk RefChange RefRow RefTake RefPut5 RefOps5

/-- A new disk at a new block; all that was there is as it was. -/
def NPost (w : World) (K : Nat → Nat) (o : Nat) (d : DSt) (e : Ending) (w' : World) : Prop := ∃ p K', e = .returned (.pointer (some ⟨p, 0, none⟩)) ∧ w.heap.size ≤ p ∧ RefD w' K' o p d ∧ ∀ o', Turned K K' o' w w'

theorem new_any (w : World) (K : Nat → Nat) (o : Nat) :
    Calls Try.prog 9 #[] w (NPost w K o fresh) := by
  go_enter Try.func9, Try.ntmps9
  go_wp2
  go_ret
  have hh := Go.heap_alloc_new w (.cells #[.slice none 0 0, .bool false, .bool false, .int .i64 (-1)] 61)
  obtain ⟨W, hW⟩ : ∃ W, W = w.alloc (.cells #[.slice none 0 0, .bool false, .bool false, .int .i64 (-1)] 61) := ⟨_, rfl⟩
  rw [← hW] at hh ⊢
  have hsz : W.heap.size = w.heap.size + 1 := by rw [hW]; simp
  have hbW : ∀ j, j < w.heap.size → W.heap[j]? = w.heap[j]? := fun j hj => by rw [hW]; exact Below.heap_alloc w _ j hj
  have fz : ∀ j, W.frozen? ⟨w.heap.size, j, none⟩ = false := fun j => by
    unfold World.frozen?
    rw [hh]
    rfl
  have kc : ∀ j u, (#[Value.slice none 0 0, .bool false, .bool false, .int .i64 (-1)])[j]? = some u → W.cell? ⟨w.heap.size, j, none⟩ = some u := fun j u hu => by
    rw [hW]
    exact (World.cell?_alloc_at _ _ _ _ rfl).trans hu
  refine ⟨w.heap.size, fun b => if b < w.heap.size then K b else o, rfl, Nat.le_refl _, ⟨none, 0, Nat.le_refl _, Nat.zero_le _, by omega, by simp, kc 0 _ rfl, kc 1 _ rfl, kc 2 _ rfl, kc 3 _ rfl, fz 0, fz 1, fz 2, fz 3, fun _ _ e => (by cases e), fun h => absurd h (Nat.lt_irrefl 0)⟩, fun o' => ⟨by rw [hW]; rfl, by rw [hW]; rfl, by rw [hW]; rfl, by omega, fun j hj _ => hbW j hj, fun j hj => by simp [hj]⟩⟩
end Go.Proofs.Ytfblekedgenacaa.RefNew5
