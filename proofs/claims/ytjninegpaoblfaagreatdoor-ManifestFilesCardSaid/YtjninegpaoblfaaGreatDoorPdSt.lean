/- One disk of the program's, in a call that began at another world: what is known on the way. No conditions. -/
import Derived.Test.YtjninegpaoblfaaGreatDoorPdRes
import Derived.Test.YtjninegpaoblfaaGreatDoorDkLaws
namespace Go.Proofs.YtjninegpaoblfaaGreatDoor.PdSt
open Go Go.RowKit Go.Maps Words DkSpec PdLook RefDisk PdDisk PdChange PdOps PdSync PdRen PdRead PdApp PdRes

/-- The disk 1 at p; nothing that was there when the call began has changed. -/
structure St (w0 w : World) (K : Nat → Nat) (p : Nat) (d : DSt) : Prop where
  disk : PDisk w K 1 p d
  turned : Turned (fun _ => 0) K 1 w0 w
section
variable {w0 w w' : World} {K K' : Nat → Nat} {p : Nat} {d d' : DSt}
theorem St.below (h : St w0 w K p d) : Below w0.heap.size w0 w := ⟨h.turned.os, h.turned.tape, h.turned.output, h.turned.size, fun k hk => h.turned.block k hk (by decide)⟩
theorem St.step (h : St w0 w K p d) (h' : PDisk w' K' 1 p d') (ht : Turned K K' 1 w w') : St w0 w' K' p d' := ⟨h', h.turned.trans ht⟩
/-- Something new, of no disk's. -/
def mark (K : Nat → Nat) (n m : Nat) : Nat → Nat := fun b => if b < n then K b else m
theorem St.new (h : St w0 w K p d) (hb : Below w.heap.size w w') (m : Nat) : St w0 w' (mark K w.heap.size m) p d := by
  obtain ⟨M, D, L, G, Q, hp⟩ := h.disk
  have hk : ∀ i, i < w.heap.size → mark K w.heap.size m i = K i := fun i hi => if_pos hi
  exact ⟨⟨M, D, L, G, Q, hp.keep (fun i hi _ => hb.block i hi) hk⟩, h.turned.trans ⟨hb.os, hb.tape, hb.output, hb.size, fun i hi _ => hb.block i hi, hk⟩⟩
theorem St.lit (h : St w0 w K p d) (x : Obj) (m : Nat) : St w0 (w.alloc x) (mark K w.heap.size m) p d := h.new ((Below.refl _ w).alloc (Nat.le_refl _) x) m
theorem mark_new {K : Nat → Nat} {n m b : Nat} (h : n ≤ b) : mark K n m b = m := if_neg (by omega)
theorem mark_old {K : Nat → Nat} {n m b : Nat} (h : b < n) : mark K n m b = K b := if_pos h
theorem St.old (h : St w0 w K p d) {b : Nat} (hb : b < w0.heap.size) : K b = 0 := h.turned.kind b hb
/-- The bytes of an argument. -/
theorem St.rd (h : St w0 w K p d) {A : Option Addr} {vs : List Value} (hr : Rd w0 w0.heap.size A vs) : Rd w w.heap.size A vs ∧ ∀ b off, A = some ⟨b, off, none⟩ → 0 < vs.length → K b ≠ 1 := by
  refine ⟨(hr.below h.below).more h.turned.size, fun b off e hn => ?_⟩
  obtain ⟨b', off', e', hb', _⟩ := hr hn
  rw [e] at e'
  injection e' with e'
  injection e' with e'
  rw [e', h.old hb']
  decide
theorem St.first {w0 w : World} {K : Nat → Nat} {p : Nat} (h : PDisk w K 1 p d) (ht : ∀ o', Turned (fun _ => 0) K o' w0 w) : St w0 w K p d := ⟨h, ht 1⟩
end
/-- A literal's cells. -/
theorem lit_rd (w : World) (cs : Array Value) (e : TypeId) (fz : Nat × Nat) : Rd (w.alloc (.cells cs e fz)) (w.alloc (.cells cs e fz)).heap.size (some ⟨w.heap.size, 0, none⟩) cs.toList := fun _ =>
  ⟨w.heap.size, 0, rfl, by simp, fun j u hu => by
    have h : (w.alloc (.cells cs e fz)).heap[w.heap.size]? = some (.cells cs e fz) := by
      show (w.heap.push (.cells cs e fz))[w.heap.size]? = _
      simp
    unfold World.cell?
    simp only [h]
    simpa using hu⟩
theorem lit_kind {K : Nat → Nat} {w : World} {m : Nat} (hm : m ≠ 1) : ∀ b off, (some ⟨w.heap.size, 0, none⟩ : Option Addr) = some ⟨b, off, none⟩ → ∀ {n : Nat}, 0 < n → mark K w.heap.size m b ≠ 1 := fun b off e _ _ => by
  injection e with e
  injection e with e
  rw [← e, mark_new (Nat.le_refl _)]
  exact hm
theorem run_str {s : List UInt8} {B : Nat} (w : World) (A : Option Addr) (n c : Nat) (hn : n = s.length) (hr : Rd w B A (s.map B8)) : (convert 51 9 (.slice A n c)).run Tryz.prog w = .ok (.string ⟨s.toArray⟩) w := by
  subst hn
  exact run_bytes w 51 9 5 Tryz.underlying51 Tryz.underlying5 Tryz.underlying9 A s c B hr
end Go.Proofs.YtjninegpaoblfaaGreatDoor.PdSt
