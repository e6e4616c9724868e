/- Rows and arguments beside a disk and a log. No conditions. -/
import Derived.Test.YtapbjmbakpopcaaGreatDoorWlAwake
import Derived.Test.YtapbjmbakpopcaaGreatDoorPdRes
namespace Go.Proofs.YtapbjmbakpopcaaGreatDoor.WlRun
open Go Go.RowKit Words DkSpec PdLook RefDisk PdDisk PdOps PdRes WlSpec WlName WlHeld WlLog WlMv Parts5 WlLaw WlTot WlSt WlAwake

section
variable {LogR : World → Nat → Nat → LSt → Prop} {w0 w w' : World} {K K' : Nat → Nat} {p g : Nat} {d : DSt} {l : LSt}
theorem own_mv2 {base n size : Nat} {e : TypeId} {v : Value} {xs : List Value} (h : w.ownsRow base e size v n xs) (hk : ∀ q, v.ownBlock = some q → ¬ S2 (K q)) (ht : Mv K K' S2 w w') : w'.ownsRow base e size v n xs ∧ ∀ q, v.ownBlock = some q → ¬ S2 (K' q) := by
  obtain ⟨h1, h2⟩ := h
  rcases h2 with ⟨rfl, h2⟩ | ⟨b, cap, cur, rfl, h3, h4, h5⟩
  · exact ⟨⟨h1, .inl ⟨rfl, h2⟩⟩, fun q e => by cases e⟩
  · have hg := (Array.getElem?_eq_some_iff.1 h4).1
    have hk1 := hk b rfl
    refine ⟨⟨h1, .inr ⟨b, cap, cur, rfl, h3, (ht.block b hg hk1).trans h4, h5⟩⟩, fun q e => ?_⟩
    injection e with e
    subst e
    rw [ht.kind b hg]
    exact hk1
/-- A row of the statement's own has grown. -/
theorem own_st (P : Wal LogR) (h : WSt LogR w0 w K p g d l) {r : Option Nat} (hg : w.grownBy w' r) (hr : ∀ q, r = some q → ¬ S2 (K q) ∧ w0.heap.size ≤ q) : WSt LogR w0 w' (kmark K w.heap.size 3) p g d l := by
  obtain ⟨M, D, L, G, Q, hp⟩ := h.disk
  have hb : ∀ i, i < w.heap.size → S2 (K i) → w'.heap[i]? = w.heap[i]? := fun i hi hk => hg.block i hi (fun e => (hr i e.symm).1 hk)
  refine ⟨⟨M, D, L, G, Q, hp.keep (fun i hi hk => hb i hi (by rw [hk]; exact .inl rfl)) (fun i hi => kmark_old hi)⟩, P.keep h.log (hb g h.lt (by rw [h.kg]; exact .inr rfl)), Nat.lt_of_lt_of_le h.lt hg.size, (kmark_old h.lt).trans h.kg, ?_⟩
  have hs := h.mv.size
  exact ⟨hg.os.trans h.mv.os, hg.tape.trans h.mv.tape, hg.output.trans h.mv.output, Nat.le_trans hs hg.size, fun i hi hk => (hg.block i (by omega) (fun e => by have := (hr i e.symm).2; omega)).trans (h.mv.block i hi hk), fun i hi => (kmark_old (by omega)).trans (h.mv.kind i hi)⟩
theorem own_kind {base n size : Nat} {e : TypeId} {v v' : Value} {xs : List Value} (h : w.ownsRow base e size v n xs) (hk : ∀ q, v.ownBlock = some q → ¬ S2 (K q)) (hv : v'.ownBlock = v.ownBlock ∨ v'.ownBlock = some w.heap.size) : ∀ q, v'.ownBlock = some q → ¬ S2 (kmark K w.heap.size 3 q) := fun q e => by
  rcases hv with hv | hv
  · have hq := hv.symm.trans e
    rw [kmark_old (h.lt q hq).2]
    exact hk q hq
  · rw [e] at hv
    injection hv with hv
    rw [kmark_new (by omega)]
    unfold S2
    omega
/-- An argument's memory. -/
theorem old_kind (h : Mv (fun _ => 0) K S2 w0 w) {b : Nat} (hb : b < w0.heap.size) : ¬ S2 (K b) := by rw [h.kind b hb]; exact S2_zero
theorem arg_st (h : WSt LogR w0 w K p g d l) {A : Option Addr} {n c : Nat} {ps : List Part} (ha : Ps w0 A n c ps) : PsK w K A n c ps := by
  refine ⟨ha.below h.below, fun o j e hn => ?_, fun q hq o j e hn => ?_⟩
  · obtain ⟨b, off, e', hb, _⟩ := ha.rd (by simpa using hn)
    rw [e] at e'
    cases e'
    exact old_kind h.mv hb
  · obtain ⟨b, off, e', hb, _⟩ := (ha.each q hq).1 (by simpa using hn)
    rw [e] at e'
    cases e'
    exact old_kind h.mv hb
theorem part_cell {A : Option Addr} {n c : Nat} {ps : List Part} {b o i : Nat} (h : Ps w A n c ps) (e : A = some ⟨b, o, none⟩) (hi : i < ps.length) : w.cell? ⟨b, o + i, none⟩ = some (SV ps[i]) := by
  obtain ⟨b', off, e', _, hc⟩ := h.rd (by simp; omega)
  rw [e] at e'
  cases e'
  exact hc i (SV ps[i]) (by rw [List.getElem?_map, List.getElem?_eq_getElem hi]; rfl)
theorem down_pd (h : PDisk w K 1 p d) : Calls Tryz.prog 31 #[.pointer (some ⟨p, 0, none⟩)] w fun e w' => e = .returned (.bool d.off) ∧ w = w' := by
  obtain ⟨M, D, L, G, Q, hp⟩ := h
  exact PdChange.down_any w K 1 p M D L G Q d hp
/-- The round of WalReplay's first loop: i payloads are through. -/
def RR (LogR : World → Nat → Nat → LSt → Prop) (w0 : World) (p g : Nat) (pl : List Part) (nb i : Nat) (vh : Value) (sv : Nat) (wr : World) : Prop :=
  ∃ (K : Nat → Nat) (d : DSt) (l : LSt) (gs : List (List (List UInt8))) (C : List (List UInt8)) (c : Nat) (hs : List Part), WSt LogR w0 wr K p g d l ∧ Run d l gs C c ∧ l.n ≤ nb ∧ tot d ≤ (all (pl.take i)).length + 14 * i ∧ d.files.length ≤ i ∧
    wr.ownsRow w0.heap.size 38 1 vh hs.length (hs.map SV) ∧ (∀ q, vh.ownBlock = some q → ¬ S2 (K q)) ∧ (∀ q ∈ hs, q ∈ pl) ∧ hs.length ≤ i ∧ pays hs = gs.flatten ++ C ∧ sv ≤ gs.flatten.length + c
def RRel (LogR : World → Nat → Nat → LSt → Prop) (w0 : World) (p g : Nat) (pl : List Part) (vh vs vi : Value) (wr : World) : Prop :=
  ∃ (i sv : Nat), i ≤ pl.length ∧ i ≤ 100 ∧ vi = .int .i64 (i : Int) ∧ vs = .int .i64 (sv : Int) ∧ Hid (RR LogR w0 p g pl (1 + i) i vh sv wr)
end
theorem all_next {pl : List Part} {i : Nat} (h : i < pl.length) : (all (pl.take (i + 1))).length = (all (pl.take i)).length + (pl[i]).l.length := by rw [all_snoc h, List.length_append]
theorem rr_more {LogR : World → Nat → Nat → LSt → Prop} {w0 w : World} {p g i : Nat} {pl : List Part} {v : Value} {sv : Nat} (h : RR LogR w0 p g pl (1 + i) (i + 1) v sv w) : RR LogR w0 p g pl (1 + (i + 1)) (i + 1) v sv w := by
  obtain ⟨K, d, l, gs, C, c, hs, h1, h2, h3, h4⟩ := h
  exact ⟨K, d, l, gs, C, c, hs, h1, h2, by omega, h4⟩
/-- The statement's own list of arguments' slices. -/
theorem own_ps {w0 w : World} {pl had : List Part} {A A0 : Option Addr} {n n0 c c0 : Nat} (h : w.ownsRow w0.heap.size 38 1 (.slice A n c) had.length (had.map SV)) (hb : Below w0.heap.size w0 w) (hp : Ps w0 A0 n0 c0 pl) (hin : ∀ q ∈ had, q ∈ pl) : n = had.length ∧ Ps w A n c had := by
  obtain ⟨A1, c1, e, h1, h2, _⟩ := Put.own_slice h
  simp only [Value.slice.injEq] at e
  obtain ⟨rfl, rfl, rfl⟩ := e
  exact ⟨rfl, rfl, h1, h2, Rd.of_own h, fun q hq => (hp.below hb).each q (hin q hq)⟩
theorem pays_take (ps : List Part) (k : Nat) : pays (ps.take k) = (pays ps).take k := by unfold pays; rw [List.map_take]
theorem info_slice : (Tryz.prog.info? 38).map (fun i => (i.zero, i.size, i.bytes)) = some (some (.slice none 0 0), 1, 24) := by kernel_rfl
end Go.Proofs.YtapbjmbakpopcaaGreatDoor.WlRun
