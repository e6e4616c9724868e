/- A disk and a log in a call that began at another world: what is known on the way; lists of slices of bytes beside them. No conditions. -/
import Derived.Test.YtapbjmbakpopcaaGreatDoorWlLaw
namespace Go.Proofs.YtapbjmbakpopcaaGreatDoor.WlSt
open Go Go.RowKit Words DkSpec PdLook RefDisk PdDisk PdOps WlSpec WlName WlHeld WlLog WlMv Parts5 WlLaw

/-- What a log's calls may change: the disk's blocks (1), the log's (2). -/
def S2 (o : Nat) : Prop := o = 1 ∨ o = 2
structure WSt (LogR : World → Nat → Nat → LSt → Prop) (w0 w : World) (K : Nat → Nat) (p g : Nat) (d : DSt) (l : LSt) : Prop where
  disk : PDisk w K 1 p d
  log : LogR w g p l
  lt : g < w.heap.size
  kg : K g = 2
  mv : Mv (fun _ => 0) K S2 w0 w
structure DkSt (w0 w : World) (K : Nat → Nat) (p : Nat) (d : DSt) : Prop where
  disk : PDisk w K 1 p d
  mv : Mv (fun _ => 0) K S2 w0 w
/-- Kinds of new blocks: the block g is the log's. -/
def markg (K : Nat → Nat) (n g : Nat) : Nat → Nat := fun b => if b < n then K b else if b = g then 2 else 3
section
variable {LogR : World → Nat → Nat → LSt → Prop} {w0 w w' : World} {K K' : Nat → Nat} {p g : Nat} {d d' : DSt} {l l' : LSt}
theorem S2_zero : ¬ S2 0 := by unfold S2; omega
theorem mv_below (h : Mv (fun _ => 0) K S2 w0 w) : Below w0.heap.size w0 w := h.below fun _ _ => S2_zero
theorem WSt.below (h : WSt LogR w0 w K p g d l) : Below w0.heap.size w0 w := mv_below h.mv
theorem WSt.dk (h : WSt LogR w0 w K p g d l) : DkSt w0 w K p d := ⟨h.disk, h.mv⟩
theorem DkSt.below (h : DkSt w0 w K p d) : Below w0.heap.size w0 w := mv_below h.mv
/-- A call of the log's. -/
theorem WSt.step (P : Wal LogR) (h : WSt LogR w0 w K p g d l) {e : Ending} {r : Nat × LSt × DSt} (hp : LgPost LogR w K p g r e w') : e = .returned (.int .i64 (r.1 : Int)) ∧ ∃ K', WSt LogR w0 w' K' p g r.2.2 r.2.1 ∧ Mv K K' S2 w w' := by
  obtain ⟨he, K', h1, h2, h3⟩ := hp
  exact ⟨he, K', ⟨h1, h2, P.lt h2, (h3.kind g h.lt).trans h.kg, h.mv.trans h3⟩, h3⟩
/-- A call of the disk's. -/
theorem WSt.turned (P : Wal LogR) (h : WSt LogR w0 w K p g d l) (hd : PDisk w' K' 1 p d') (ht : Turned K K' 1 w w') : WSt LogR w0 w' K' p g d' l ∧ Mv K K' S2 w w' := by
  have hm : Mv K K' S2 w w' := Mv.of ht (.inl rfl)
  exact ⟨⟨hd, P.keep h.log (ht.block g h.lt (by rw [h.kg]; decide)), Nat.lt_of_lt_of_le h.lt ht.size, (ht.kind g h.lt).trans h.kg, h.mv.trans hm⟩, hm⟩
theorem DkSt.turned (h : DkSt w0 w K p d) (hd : PDisk w' K' 1 p d') (ht : Turned K K' 1 w w') : DkSt w0 w' K' p d' ∧ Mv K K' S2 w w' :=
  ⟨⟨hd, h.mv.trans (Mv.of ht (.inl rfl))⟩, Mv.of ht (.inl rfl)⟩
/-- Something new. -/
theorem WSt.new (P : Wal LogR) (h : WSt LogR w0 w K p g d l) (hb : Below w.heap.size w w') (m : Nat) : WSt LogR w0 w' (kmark K w.heap.size m) p g d l ∧ Mv K (kmark K w.heap.size m) S2 w w' := by
  have hm : Mv K (kmark K w.heap.size m) S2 w w' := Mv.new hb m
  obtain ⟨M, D, L, G, Q, hp⟩ := h.disk
  exact ⟨⟨⟨M, D, L, G, Q, hp.keep (fun i hi _ => hb.block i hi) (fun i hi => if_pos hi)⟩, P.keep h.log (hb.block g h.lt), Nat.lt_of_lt_of_le h.lt hb.size, (kmark_old h.lt).trans h.kg, h.mv.trans hm⟩, hm⟩
/-- A log opened over the disk. -/
theorem DkSt.opened (P : Wal LogR) (h : DkSt w0 w K p d) (hb : Below w.heap.size w w') (hl : LogR w' g p l) (hg : w.heap.size ≤ g) : WSt LogR w0 w' (markg K w.heap.size g) p g d l ∧ Mv K (markg K w.heap.size g) S2 w w' := by
  have hm : Mv K (markg K w.heap.size g) S2 w w' := ⟨hb.os, hb.tape, hb.output, hb.size, fun i hi _ => hb.block i hi, fun i hi => if_pos hi⟩
  obtain ⟨M, D, L, G, Q, hp⟩ := h.disk
  exact ⟨⟨⟨M, D, L, G, Q, hp.keep (fun i hi _ => hb.block i hi) (fun i hi => if_pos hi)⟩, hl, P.lt hl, by unfold markg; rw [if_neg (by omega), if_pos rfl], h.mv.trans hm⟩, hm⟩
end

/-! ### Lists of slices of bytes beside them -/
theorem rd_mv2 {w w' : World} {K K' : Nat → Nat} {A : Option Addr} {vs : List Value} (h : Mv K K' S2 w w') (hr : Rd w w.heap.size A vs) (hk : ∀ o j, A = some ⟨o, j, none⟩ → 0 < vs.length → ¬ S2 (K o)) :
    Rd w' w'.heap.size A vs ∧ ∀ o j, A = some ⟨o, j, none⟩ → 0 < vs.length → ¬ S2 (K' o) := by
  refine ⟨fun hn => ?_, fun o j e hn => ?_⟩
  · obtain ⟨b, off, e, hb, hc⟩ := hr hn
    refine ⟨b, off, e, Nat.lt_of_lt_of_le hb h.size, fun j u hu => ?_⟩
    rw [World.cell?_of_block (a := ⟨b, off + j, none⟩) (h.block b hb (hk b off e hn))]
    exact hc j u hu
  · obtain ⟨b, off, e', hb, _⟩ := hr hn
    rw [e] at e'
    injection e' with e'
    injection e' with e'
    subst e'
    rw [h.kind o hb]
    exact hk o j e hn
structure PsK (w : World) (K : Nat → Nat) (A : Option Addr) (n c : Nat) (ps : List Part) : Prop where
  mem : Ps w A n c ps
  kA : ∀ o j, A = some ⟨o, j, none⟩ → 0 < ps.length → ¬ S2 (K o)
  kE : ∀ q ∈ ps, ∀ o j, q.A = some ⟨o, j, none⟩ → 0 < q.l.length → ¬ S2 (K o)
section
variable {w w' : World} {K K' : Nat → Nat} {A : Option Addr} {n c : Nat} {ps : List Part}
theorem PsK.mv (h : PsK w K A n c ps) (ht : Mv K K' S2 w w') : PsK w' K' A n c ps := by
  obtain ⟨h1, h2⟩ := rd_mv2 ht h.mem.rd (fun o j e hn => h.kA o j e (by simpa using hn))
  refine ⟨⟨h.mem.len, h.mem.le, h.mem.cap, h1, fun q hq => ⟨?_, (h.mem.each q hq).2⟩⟩, fun o j e hn => h2 o j e (by simpa using hn), fun q hq o j e hn => ?_⟩
  · exact (rd_mv2 ht (h.mem.each q hq).1 (fun o j e hn => h.kE q hq o j e (by simpa using hn))).1
  · exact (rd_mv2 ht (h.mem.each q hq).1 (fun o j e hn => h.kE q hq o j e (by simpa using hn))).2 o j e (by simpa using hn)
theorem PsK.take (h : PsK w K A n c ps) (k : Nat) (hk : k ≤ n) : PsK w K A k c (ps.take k) :=
  ⟨h.mem.take k hk, fun o j e hn => h.kA o j e (by rw [List.length_take] at hn; omega), fun q hq => h.kE q (List.mem_of_mem_take hq)⟩
/-- What Open answers, behind the kinds of its new blocks. -/
theorem PsK.opened {g : Nat} (h : Ps w' A n c ps) (hn : PsN w.heap.size (fun o => o ≠ g) A ps) : PsK w' (markg K w.heap.size g) A n c ps := by
  have key : ∀ o, w.heap.size ≤ o ∧ o ≠ g → ¬ S2 (markg K w.heap.size g o) := fun o ho => by unfold markg S2; rw [if_neg (by omega), if_neg ho.2]; omega
  exact ⟨h, fun o j e hl => key o (hn.1 o j e hl), fun q hq o j e hl => key o (hn.2 q hq o j e hl)⟩
theorem PsK.arg {w0 : World} (h : Ps w0 A n c ps) : PsK w0 (fun _ => 0) A n c ps := ⟨h, fun _ _ _ _ => S2_zero, fun _ _ _ _ _ _ => S2_zero⟩
end
end Go.Proofs.YtapbjmbakpopcaaGreatDoor.WlSt
