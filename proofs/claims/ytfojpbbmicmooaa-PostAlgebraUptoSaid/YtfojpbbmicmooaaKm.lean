/- Whose a block is, by numbers; what changes while only blocks of some numbers change ('Mv'). Of no program. No conditions. -/
import Derived.Test.YtfojpbbmicmooaaWords
import Derived.Laws.Rows
namespace Go.Proofs.Ytfojpbbmicmooaa.Km
open Go Go.RowKit Words

/-- Something new, of a kind of its own. -/
def kmark (K : Nat → Nat) (n m : Nat) : Nat → Nat := fun b => if b < n then K b else m
theorem kmark_new {K : Nat → Nat} {n m b : Nat} (h : n ≤ b) : kmark K n m b = m := if_neg (by omega)
theorem kmark_old {K : Nat → Nat} {n m b : Nat} (h : b < n) : kmark K n m b = K b := if_pos h

/-- Only blocks whose number is in S have changed, and new ones have come. -/
structure Mv (K K' : Nat → Nat) (S : Nat → Prop) (w w' : World) : Prop where
  os : w'.os = w.os
  tape : w'.tape = w.tape
  output : w'.output = w.output
  size : w.heap.size ≤ w'.heap.size
  block : ∀ i, i < w.heap.size → ¬ S (K i) → w'.heap[i]? = w.heap[i]?
  kind : ∀ i, i < w.heap.size → K' i = K i
section
variable {K K' K'' : Nat → Nat} {S S' : Nat → Prop} {w w' w'' : World}
theorem Mv.refl (K : Nat → Nat) (S : Nat → Prop) (w : World) : Mv K K S w w := ⟨rfl, rfl, rfl, Nat.le_refl _, fun _ _ _ => rfl, fun _ _ => rfl⟩
theorem Mv.trans (h : Mv K K' S w w') (h' : Mv K' K'' S w' w'') : Mv K K'' S w w'' :=
  ⟨h'.os.trans h.os, h'.tape.trans h.tape, h'.output.trans h.output, Nat.le_trans h.size h'.size,
    fun i hi hk => (h'.block i (by have := h.size; omega) (by rw [h.kind i hi]; exact hk)).trans (h.block i hi hk),
    fun i hi => (h'.kind i (by have := h.size; omega)).trans (h.kind i hi)⟩
theorem Mv.widen (h : Mv K K' S w w') (hS : ∀ o, S o → S' o) : Mv K K' S' w w' := ⟨h.os, h.tape, h.output, h.size, fun i hi hk => h.block i hi (fun e => hk (hS _ e)), h.kind⟩
theorem Mv.new (hb : Below w.heap.size w w') (m : Nat) : Mv K (kmark K w.heap.size m) S w w' := ⟨hb.os, hb.tape, hb.output, hb.size, fun i hi _ => hb.block i hi, fun i hi => if_pos hi⟩
theorem Mv.same (hb : Below w.heap.size w w') : Mv K K S w w' := ⟨hb.os, hb.tape, hb.output, hb.size, fun i hi _ => hb.block i hi, fun _ _ => rfl⟩
theorem Mv.below (h : Mv K K' S w w') (hS : ∀ i, i < w.heap.size → ¬ S (K i)) : Below w.heap.size w w' := ⟨h.os, h.tape, h.output, h.size, fun i hi => h.block i hi (hS i hi)⟩
/-- A store into a block of S. -/
theorem Mv.poke {a : Addr} (u : Value) (h : S (K a.block)) : Mv K K S w (w.setCell a u) := ⟨rfl, rfl, rfl, by simp, fun i hi hk => heap_setCell_other w a i u (fun e => hk (by rw [e]; exact h)), fun _ _ => rfl⟩
theorem rd_mv {A : Option Addr} {vs : List Value} {m : Nat} (h : Mv K K' S w w') (hm : ¬ S m) (hr : Rd w w.heap.size A vs) (hk : ∀ b off, A = some ⟨b, off, none⟩ → 0 < vs.length → K b = m) : Rd w' w'.heap.size A vs ∧ ∀ b off, A = some ⟨b, off, none⟩ → 0 < vs.length → K' b = m := by
  refine ⟨fun hn => ?_, fun b off e hn => ?_⟩
  · obtain ⟨b, off, e, hb, hc⟩ := hr hn
    refine ⟨b, off, e, Nat.lt_of_lt_of_le hb h.size, fun j u hu => ?_⟩
    rw [World.cell?_of_block (a := ⟨b, off + j, none⟩) (h.block b hb (by rw [hk b off e hn]; exact hm))]
    exact hc j u hu
  · obtain ⟨b', off', e', hb', _⟩ := hr hn
    rw [e] at e'
    injection e' with e'
    injection e' with e'
    subst e'
    exact (h.kind b hb').trans (hk b off e hn)
/-- A row of one's own, of number m, stays. -/
theorem own_mv {base n size m : Nat} {e : TypeId} {v : Value} {xs : List Value} (h : w.ownsRow base e size v n xs) (hk : ∀ q, v.ownBlock = some q → K q = m) (ht : Mv K K' S w w') (hm : ¬ S m) : w'.ownsRow base e size v n xs ∧ ∀ q, v.ownBlock = some q → K' q = m := by
  obtain ⟨h1, h2⟩ := h
  rcases h2 with ⟨rfl, h2⟩ | ⟨g, cap, cur, rfl, h3, h4, h5⟩
  · exact ⟨⟨h1, .inl ⟨rfl, h2⟩⟩, fun q e => by cases e⟩
  · have hg := (Array.getElem?_eq_some_iff.1 h4).1
    have hk1 := hk g rfl
    refine ⟨⟨h1, .inr ⟨g, cap, cur, rfl, h3, (ht.block g hg (by rw [hk1]; exact hm)).trans h4, h5⟩⟩, fun q e => ?_⟩
    injection e with e
    subst e
    exact (ht.kind g hg).trans hk1
end

end Go.Proofs.Ytfojpbbmicmooaa.Km
