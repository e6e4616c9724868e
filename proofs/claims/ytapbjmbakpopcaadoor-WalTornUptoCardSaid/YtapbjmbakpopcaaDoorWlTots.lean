/- Plain: how many files and bytes a disk has, behind each call; a log over a disk that isn't armed. Of no program. No conditions. · A disk and a log in a call that began at another world: what is known on the way; lists of slices of bytes beside them. No conditions. -/
import Derived.Test.YtapbjmbakpopcaaDoorWlLaw
namespace Go.Proofs.YtapbjmbakpopcaaDoor.WlTot
open Go DkSpec WlSpec WlName WlHeld WlLog WlLaw

theorem sum_split (l : List DFile) (i : Nat) : (l.map fun f => f.data.length).sum = ((l.take i).map fun f => f.data.length).sum + ((l.drop i).map fun f => f.data.length).sum := by
  conv => lhs; rw [← List.take_append_drop i l]
  rw [List.map_append, List.sum_append]
theorem tot_put (name data : List UInt8) (s : Nat) (l : List DFile) :
    ((put ⟨name, (old name l).data ++ data, s⟩ l).map fun f => f.data.length).sum = (l.map fun f => f.data.length).sum + data.length ∧ (put ⟨name, (old name l).data ++ data, s⟩ l).length ≤ l.length + 1 := by
  obtain ⟨h1, h2⟩ := place_le name l
  have hs := sum_split l (place name l).1
  unfold put
  simp only
  rw [List.map_append, List.sum_append, List.map_cons, List.sum_cons]
  cases hp : (place name l).2 with
  | false =>
    have ho : (old name l).data = [] := by unfold old; rw [hp]; rfl
    rw [ho]
    simp only [Bool.false_eq_true, if_false, Nat.add_zero, List.nil_append, List.length_append, List.length_cons, List.length_take, List.length_drop]
    omega
  | true =>
    obtain ⟨h3, h4⟩ := h2 hp
    have ho : (old name l).data = (l[(place name l).1]).data := by unfold old; rw [hp]; simp [List.getD, List.getElem?_eq_getElem h3]
    rw [List.drop_eq_getElem_cons h3, List.map_cons, List.sum_cons] at hs
    rw [ho]
    simp only [if_true, List.length_append, List.length_cons, List.length_take, List.length_drop]
    omega
theorem fit_stepped (d : DSt) : tot (stepped d) = tot d ∧ (stepped d).files.length = d.files.length := by unfold tot; rw [stepped_files]; exact ⟨rfl, rfl⟩
theorem tot_append (name data : List UInt8) (d : DSt) : tot (append name data d).2 ≤ tot d + data.length ∧ (append name data d).2.files.length ≤ d.files.length + 1 := by
  unfold append
  split
  · exact ⟨Nat.le_add_right _ _, Nat.le_add_right _ _⟩
  · split
    · have := fit_stepped d
      simp only
      omega
    · have h := tot_put name data (old name d.files).synced d.files
      exact ⟨Nat.le_of_eq h.1, h.2⟩
theorem tot_sync (name : List UInt8) (d : DSt) : tot (sync name d).2 = tot d ∧ (sync name d).2.files.length = d.files.length := by
  unfold sync
  split
  · exact ⟨rfl, rfl⟩
  · split
    · exact fit_stepped d
    · unfold tot
      simp only [List.length_modify, and_true]
      congr 1
      apply List.ext_getElem?
      intro i
      rw [List.getElem?_map, List.getElem?_map, List.getElem?_modify]
      cases d.files[i]? with
      | none => rfl
      | some f => by_cases e : (place name d.files).1 = i <;> simp [e]
theorem tot_kept : ∀ (l : List DFile) (ks : List Int), ((kept l ks).map fun f => f.data.length).sum ≤ (l.map fun f => f.data.length).sum ∧ (kept l ks).length = l.length
  | [], _ => ⟨Nat.le_refl _, rfl⟩
  | f :: r, ks => by
    obtain ⟨h1, h2⟩ := tot_kept r ks.tail
    rw [kept]
    simp only [List.map_cons, List.sum_cons, List.length_cons, List.length_take]
    omega
theorem tot_restart (ks : List Int) (d : DSt) : tot (restart ks d) ≤ tot d ∧ (restart ks d).files.length = d.files.length := tot_kept _ _
theorem tot_arm (n : Int) (d : DSt) : tot (arm n d) = tot d ∧ (arm n d).files.length = d.files.length := by unfold arm tot; split <;> exact ⟨rfl, rfl⟩
theorem frm_small (p : List UInt8) (h : p.length ≤ 65536) : (Framed.frm p).length ≤ p.length + 14 := by
  rw [Framed.frm_length]
  have := Lib.uvarint_length64 (x := p.length) (by omega)
  omega
theorem tot_appendL (p : List UInt8) (l : LSt) (d : DSt) : tot (appendL p l d).2.2 ≤ tot d + p.length + 14 ∧ (appendL p l d).2.2.files.length ≤ d.files.length + 1 := by
  unfold appendL appendL.frm'
  split
  · exact ⟨by simp only; omega, by simp only; omega⟩
  · have h1 := tot_append (name l.n) (Framed.frm p) d
    have h2 := frm_small p (by omega)
    simp only
    omega
theorem tot_syncL (l : LSt) (d : DSt) : tot (syncL l d).2 = tot d ∧ (syncL l d).2.files.length = d.files.length := by
  unfold syncL
  split
  · exact ⟨rfl, rfl⟩
  · exact tot_sync _ _

theorem append_n (p : List UInt8) (l : LSt) (d : DSt) : (appendL p l d).2.1.n = l.n := by unfold appendL; split <;> rfl

/-! ### Not armed -/
def Calm (d : DSt) : Prop := d.off = false ∧ d.left = -1
theorem calm_stepped {d : DSt} (h : Calm d) : stepped d = d := by unfold stepped; rw [if_neg (by rw [h.2]; decide)]
variable {d : DSt} {l : LSt} {gs : List (List (List UInt8))} {C : List (List UInt8)} {c : Nat}
theorem calm_append (h : Run d l gs C c) (hc : Calm d) {p : List UInt8} (hp : p.length ≤ 65536) : (appendL p l d).1 = 0 ∧ Calm (appendL p l d).2.2 ∧ Run (appendL p l d).2.2 (appendL p l d).2.1 gs (C ++ [p]) c ∧ (appendL p l d).2.1 = ⟨l.first, l.n, true⟩ := by
  obtain ⟨h1, _, h3, h4, _⟩ := append_look (data := Framed.frm p) h.good (name_ok h.few) hc.1 h.room
  have e : appendL p l d = ((append (name l.n) (Framed.frm p) d).1, { l with wrote := l.wrote || (append (name l.n) (Framed.frm p) d).1 == 0 }, (append (name l.n) (Framed.frm p) d).2) := by
    unfold appendL appendL.frm'
    rw [if_neg (by omega)]
  have h0 : (appendL p l d).1 = 0 := by rw [e]; exact h1
  rcases run_append h p with h5 | h5 | h5
  · refine ⟨h0, ?_, h5.2.2.2, ?_⟩
    · rw [e]
      rw [calm_stepped hc] at h3 h4
      exact ⟨h4.trans hc.1, h3.trans hc.2⟩
    · rw [e]
      simp only [h1, beq_self_eq_true, Bool.or_true]
  · exact absurd (h0.symm.trans h5.1) (by decide)
  · exact absurd (h0.symm.trans h5.1) (by decide)
theorem calm_sync (h : Run d l gs C c) (hc : Calm d) : (syncL l d).1 = 0 ∧ Calm (syncL l d).2 ∧ Run (syncL l d).2 l gs C C.length := by
  rcases run_sync h with h5 | h5
  · refine ⟨h5.1, ?_, h5.2⟩
    unfold syncL
    cases hw : l.wrote with
    | false => rw [if_pos rfl]; exact hc
    | true =>
      rw [if_neg (by decide)]
      have hl := h.last
      rw [hw] at hl
      obtain ⟨s, h6, _⟩ := hl
      obtain ⟨_, _, h3, h4, _⟩ := sync_look h.good (name_ok h.few) hc.1 h6
      rw [calm_stepped hc] at h3 h4
      exact ⟨h4.trans hc.1, h3.trans hc.2⟩
  · rw [hc.1] at h5
    exact absurd h5.2.1 (by decide)
/-- Behind a sync that went all of the last file is synced. -/
theorem sync_full (h : Run d l gs C c) (h0 : (syncL l d).1 = 0) (hw : l.wrote = true) : ∀ f, filed (name l.n) (syncL l d).2.files = some f → f.synced = f.data.length := by
  have hl := h.last
  rw [hw] at hl
  obtain ⟨s, h6, _⟩ := hl
  have e : syncL l d = sync (name l.n) d := by unfold syncL; rw [hw, if_neg (by decide)]
  rw [e] at h0 ⊢
  cases ho : d.off with
  | true => rw [sync_off (name_ok h.few) ho] at h0; cases h0
  | false =>
    obtain ⟨_, _, _, _, h5⟩ := sync_look h.good (name_ok h.few) ho h6
    intro f hf
    rw [h5, if_pos rfl] at hf
    cases hf
    rfl
/-- Rotated behind a sync that went. -/
theorem rotate_run (h : Run d l gs C C.length) (hs : l.wrote = true → ∀ f, filed (name l.n) d.files = some f → f.synced = f.data.length) (hm : l.n < most) :
    (rotateL l).1 = 0 ∧ (rotateL l).2.n ≤ l.n + 1 ∧ ∃ gs' C' c', Run d (rotateL l).2 gs' C' c' ∧ gs'.flatten ++ C' = gs.flatten ++ C ∧ gs.flatten.length + C.length ≤ gs'.flatten.length + c' := by
  have hn : (rotateL l).2.n ≤ l.n + 1 := by
    unfold rotateL
    split
    · exact Nat.le_succ _
    · simp only
      split
      · exact Nat.le_refl _
      · exact Nat.le_succ _
  obtain ⟨h1, h2 | h2⟩ := run_rotate h hs hm
  · exact ⟨h1, hn, gs ++ [C], [], 0, h2.2, by simp, by simp⟩
  · exact ⟨h1, hn, gs, C, C.length, by rw [h2.2]; exact h, rfl, Nat.le_refl _⟩
/-- What a log that is up holds. -/
theorem run_has (h : Run d l gs C c) (hc : d.off = false) : ∃ hs, hs.flatten = gs.flatten ++ C ∧ Has d 1 hs ∧ 1 + hs.length = if l.wrote then l.n + 1 else l.n := by
  have hnn := h.num
  have hl := h.last
  cases hw : l.wrote with
  | false =>
    rw [hw] at hl
    obtain ⟨h6, h7⟩ := hl
    refine ⟨gs, by simp [h6], ⟨h.good, hc, fun i hi => ⟨_, h.files i hi, held_all (h.short _ (List.getElem_mem hi))⟩, by rw [← hnn]; exact h7⟩, by simp; omega⟩
  | true =>
    rw [hw] at hl
    obtain ⟨s, h6, h7⟩ := hl
    refine ⟨gs ++ [C], by simp, ⟨h.good, hc, fun i hi => ?_, h.free _ (by simp; omega)⟩, by simp; omega⟩
    rw [List.length_append] at hi
    simp only [List.length_cons, List.length_nil] at hi
    by_cases hlt : i < gs.length
    · rw [List.getElem_append_left hlt]
      exact ⟨_, h.files i hlt, held_all (h.short _ (List.getElem_mem hlt))⟩
    · have hi2 : i = gs.length := by omega
      subst hi2
      rw [List.getElem_append_right (Nat.le_refl _)]
      simp only [Nat.sub_self, List.getElem_cons_zero]
      rw [← hnn]
      exact ⟨_, h6, held_all h.shortC⟩
theorem calm_fresh : Calm fresh := ⟨rfl, rfl⟩
theorem fresh_run : Run fresh ⟨1, 1, false⟩ [] [] 0 := by
  have e : arm (-1) fresh = fresh := by unfold arm fresh; simp
  have h := run_start (-1)
  rwa [e] at h
theorem fresh_open : openL fresh 1 = (0, [], some ⟨1, 1, false⟩) := by
  have h : Has fresh 1 [] := ⟨fresh_run.good, rfl, fun i hi => by simp at hi, rfl⟩
  have := open_has h (Nat.le_refl _) (by unfold most; simp)
  simpa using this
theorem fresh_fit : Fit fresh := ⟨by simp [fresh], by simp [tot, fresh]⟩
end Go.Proofs.YtapbjmbakpopcaaDoor.WlTot

namespace Go.Proofs.YtapbjmbakpopcaaDoor.WlSt
open Go Go.RowKit Words DkSpec PdLook RefDisk PdDisk PdOps WlSpec WlName WlHeld WlLog WlMv Parts5 WlLaw

/-- What a log's calls may change: the disk's blocks (1), the log's (2). -/
def S2 (o : Nat) : Prop := o = 1 ∨ o = 2
structure WSt (LogR : World → Nat → Nat → LSt → Prop) (w0 w : World) (K : Nat → Nat) (p g : Nat) (d : DSt) (l : LSt) : Prop where
  disk : PDisk w K 1 p d
  log : LogR w g p l
  lt : g < w.heap.size
  kg : K g = 2
  mv : Mv (fun _ => 0) K S2 w0 w
structure DkSt (w0 w : World) (K : Nat → Nat) (p : Nat) (d : DSt) : Prop where
  disk : PDisk w K 1 p d
  mv : Mv (fun _ => 0) K S2 w0 w
/-- Kinds of new blocks: the block g is the log's. -/
def markg (K : Nat → Nat) (n g : Nat) : Nat → Nat := fun b => if b < n then K b else if b = g then 2 else 3
section
variable {LogR : World → Nat → Nat → LSt → Prop} {w0 w w' : World} {K K' : Nat → Nat} {p g : Nat} {d d' : DSt} {l l' : LSt}
theorem S2_zero : ¬ S2 0 := by unfold S2; omega
theorem mv_below (h : Mv (fun _ => 0) K S2 w0 w) : Below w0.heap.size w0 w := h.below fun _ _ => S2_zero
theorem WSt.below (h : WSt LogR w0 w K p g d l) : Below w0.heap.size w0 w := mv_below h.mv
theorem WSt.dk (h : WSt LogR w0 w K p g d l) : DkSt w0 w K p d := ⟨h.disk, h.mv⟩
theorem DkSt.below (h : DkSt w0 w K p d) : Below w0.heap.size w0 w := mv_below h.mv
/-- A call of the log's. -/
theorem WSt.step (P : Wal LogR) (h : WSt LogR w0 w K p g d l) {e : Ending} {r : Nat × LSt × DSt} (hp : LgPost LogR w K p g r e w') : e = .returned (.int .i64 (r.1 : Int)) ∧ ∃ K', WSt LogR w0 w' K' p g r.2.2 r.2.1 ∧ Mv K K' S2 w w' := by
  obtain ⟨he, K', h1, h2, h3⟩ := hp
  exact ⟨he, K', ⟨h1, h2, P.lt h2, (h3.kind g h.lt).trans h.kg, h.mv.trans h3⟩, h3⟩
/-- A call of the disk's. -/
theorem WSt.turned (P : Wal LogR) (h : WSt LogR w0 w K p g d l) (hd : PDisk w' K' 1 p d') (ht : Turned K K' 1 w w') : WSt LogR w0 w' K' p g d' l ∧ Mv K K' S2 w w' := by
  have hm : Mv K K' S2 w w' := Mv.of ht (.inl rfl)
  exact ⟨⟨hd, P.keep h.log (ht.block g h.lt (by rw [h.kg]; decide)), Nat.lt_of_lt_of_le h.lt ht.size, (ht.kind g h.lt).trans h.kg, h.mv.trans hm⟩, hm⟩
theorem DkSt.turned (h : DkSt w0 w K p d) (hd : PDisk w' K' 1 p d') (ht : Turned K K' 1 w w') : DkSt w0 w' K' p d' ∧ Mv K K' S2 w w' :=
  ⟨⟨hd, h.mv.trans (Mv.of ht (.inl rfl))⟩, Mv.of ht (.inl rfl)⟩
/-- Something new. -/
theorem WSt.new (P : Wal LogR) (h : WSt LogR w0 w K p g d l) (hb : Below w.heap.size w w') (m : Nat) : WSt LogR w0 w' (kmark K w.heap.size m) p g d l ∧ Mv K (kmark K w.heap.size m) S2 w w' := by
  have hm : Mv K (kmark K w.heap.size m) S2 w w' := Mv.new hb m
  obtain ⟨M, D, L, G, Q, hp⟩ := h.disk
  exact ⟨⟨⟨M, D, L, G, Q, hp.keep (fun i hi _ => hb.block i hi) (fun i hi => if_pos hi)⟩, P.keep h.log (hb.block g h.lt), Nat.lt_of_lt_of_le h.lt hb.size, (kmark_old h.lt).trans h.kg, h.mv.trans hm⟩, hm⟩
/-- A log opened over the disk. -/
theorem DkSt.opened (P : Wal LogR) (h : DkSt w0 w K p d) (hb : Below w.heap.size w w') (hl : LogR w' g p l) (hg : w.heap.size ≤ g) : WSt LogR w0 w' (markg K w.heap.size g) p g d l ∧ Mv K (markg K w.heap.size g) S2 w w' := by
  have hm : Mv K (markg K w.heap.size g) S2 w w' := ⟨hb.os, hb.tape, hb.output, hb.size, fun i hi _ => hb.block i hi, fun i hi => if_pos hi⟩
  obtain ⟨M, D, L, G, Q, hp⟩ := h.disk
  exact ⟨⟨⟨M, D, L, G, Q, hp.keep (fun i hi _ => hb.block i hi) (fun i hi => if_pos hi)⟩, hl, P.lt hl, by unfold markg; rw [if_neg (by omega), if_pos rfl], h.mv.trans hm⟩, hm⟩
end

/-! ### Lists of slices of bytes beside them -/
theorem rd_mv2 {w w' : World} {K K' : Nat → Nat} {A : Option Addr} {vs : List Value} (h : Mv K K' S2 w w') (hr : Rd w w.heap.size A vs) (hk : ∀ o j, A = some ⟨o, j, none⟩ → 0 < vs.length → ¬ S2 (K o)) :
    Rd w' w'.heap.size A vs ∧ ∀ o j, A = some ⟨o, j, none⟩ → 0 < vs.length → ¬ S2 (K' o) := by
  refine ⟨fun hn => ?_, fun o j e hn => ?_⟩
  · obtain ⟨b, off, e, hb, hc⟩ := hr hn
    refine ⟨b, off, e, Nat.lt_of_lt_of_le hb h.size, fun j u hu => ?_⟩
    rw [World.cell?_of_block (a := ⟨b, off + j, none⟩) (h.block b hb (hk b off e hn))]
    exact hc j u hu
  · obtain ⟨b, off, e', hb, _⟩ := hr hn
    rw [e] at e'
    injection e' with e'
    injection e' with e'
    subst e'
    rw [h.kind o hb]
    exact hk o j e hn
structure PsK (w : World) (K : Nat → Nat) (A : Option Addr) (n c : Nat) (ps : List Part) : Prop where
  mem : Ps w A n c ps
  kA : ∀ o j, A = some ⟨o, j, none⟩ → 0 < ps.length → ¬ S2 (K o)
  kE : ∀ q ∈ ps, ∀ o j, q.A = some ⟨o, j, none⟩ → 0 < q.l.length → ¬ S2 (K o)
section
variable {w w' : World} {K K' : Nat → Nat} {A : Option Addr} {n c : Nat} {ps : List Part}
theorem PsK.mv (h : PsK w K A n c ps) (ht : Mv K K' S2 w w') : PsK w' K' A n c ps := by
  obtain ⟨h1, h2⟩ := rd_mv2 ht h.mem.rd (fun o j e hn => h.kA o j e (by simpa using hn))
  refine ⟨⟨h.mem.len, h.mem.le, h.mem.cap, h1, fun q hq => ⟨?_, (h.mem.each q hq).2⟩⟩, fun o j e hn => h2 o j e (by simpa using hn), fun q hq o j e hn => ?_⟩
  · exact (rd_mv2 ht (h.mem.each q hq).1 (fun o j e hn => h.kE q hq o j e (by simpa using hn))).1
  · exact (rd_mv2 ht (h.mem.each q hq).1 (fun o j e hn => h.kE q hq o j e (by simpa using hn))).2 o j e (by simpa using hn)
theorem PsK.take (h : PsK w K A n c ps) (k : Nat) (hk : k ≤ n) : PsK w K A k c (ps.take k) :=
  ⟨h.mem.take k hk, fun o j e hn => h.kA o j e (by rw [List.length_take] at hn; omega), fun q hq => h.kE q (List.mem_of_mem_take hq)⟩
/-- What Open answers, behind the kinds of its new blocks. -/
theorem PsK.opened {g : Nat} (h : Ps w' A n c ps) (hn : PsN w.heap.size (fun o => o ≠ g) A ps) : PsK w' (markg K w.heap.size g) A n c ps := by
  have key : ∀ o, w.heap.size ≤ o ∧ o ≠ g → ¬ S2 (markg K w.heap.size g o) := fun o ho => by unfold markg S2; rw [if_neg (by omega), if_neg ho.2]; omega
  exact ⟨h, fun o j e hl => key o (hn.1 o j e hl), fun q hq o j e hl => key o (hn.2 q hq o j e hl)⟩
theorem PsK.arg {w0 : World} (h : Ps w0 A n c ps) : PsK w0 (fun _ => 0) A n c ps := ⟨h, fun _ _ _ _ => S2_zero, fun _ _ _ _ _ _ => S2_zero⟩
end
end Go.Proofs.YtapbjmbakpopcaaDoor.WlSt

