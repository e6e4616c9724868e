/- Records in memory that a call has made, each list of labels in a row of its own; what changes while only such rows are written over. Of no program but for its types. No conditions. · Whose a block is, by numbers, where what changes may also change hands ('Mo'); lists of records that lie in blocks of such numbers. Of no program but for its types. No conditions. · What stage 13's statements ask of the program's heads ('Hed': contracts of its calls), over plain words. · The statements' own 'awake' of stage 13, over the contracts of the program's heads. No conditions. -/
import Derived.Test.YtkgmcabamhpjhaaGreatLbRefs
import Derived.Test.YtkgmcabamhpjhaaGreatLbCanon
import Derived.OneCell
import Derived.ArgAppend
import Derived.Deep.Upon
import Derived.Test.YtkgmcabamhpjhaaGreatBase
import Derived.Test.YtkgmcabamhpjhaaGreatHdSpecs
import Derived.Test.YtkgmcabamhpjhaaGreatOpens
import Derived.Test.YtkgmcabamhpjhaaGreatRows
import Derived.Lib.Hide
import Derived.Test.YtkgmcabamhpjhaaGreatTxSames
import Derived.WalkLawsBesides
namespace Go.Proofs.YtkgmcabamhpjhaaGreat.HdMem
open Go Go.RowKit Words AppN Less LbSpec LbText LbMem LbRef LbCmp LbCanon RcSpec RcAll RcMem RcRef UtOwn

theorem own_row {w : World} {e : TypeId} {base n s : Nat} {v : Value} {xs : List Value} (h : w.ownsRow base e s v n xs) (hl : xs.length = n * s) : ∃ A c, v = .slice A n c ∧ n ≤ c ∧ c ≤ maxLen ∧ Rd w w.heap.size A xs := by
  rcases h.2 with ⟨rfl, rfl⟩ | ⟨g, cap, cur, rfl, hb, hg, h1, h2, h3, h4⟩
  · have hx : xs = [] := List.eq_nil_of_length_eq_zero (by rw [hl]; omega)
    subst hx
    exact ⟨none, 0, rfl, by omega, by unfold maxLen; omega, Rd.nil_⟩
  · refine ⟨_, _, rfl, h1, h2, fun hn => ?_⟩
    refine ⟨g, 0, rfl, (Array.getElem?_eq_some_iff.1 hg).1, fun j u hu => ?_⟩
    have := h.cells (g := g) rfl j u hu
    rwa [add_off] at this
def Apart (a b : Value) : Prop := ∀ g, a.ownBlock = some g → b.ownBlock ≠ some g
structure ArN (w : World) (ms : List RM) (v : Value) (wr : World) : Prop where
  own : wr.ownsRow w.heap.size 47 4 v ms.length (flatR ms)
  below : Below w.heap.size w wr
  fits : ∀ m ∈ ms, Fits m.1
  each : ∀ m ∈ ms, wr.ownsRow w.heap.size 70 2 (slV m.2) m.1.labels.length (flat m.1.labels)
  away : ∀ m ∈ ms, Apart v (slV m.2)
  apart : ms.Pairwise fun a b => Apart (slV a.2) (slV b.2)
theorem arn_nil (w : World) : ArN w [] (.slice .none 0 0) w := ⟨World.ownsRow_nil .., Below.refl _ _, fun m hm => (by cases hm), fun m hm => (by cases hm), fun m hm => (by cases hm), List.Pairwise.nil⟩
section
variable {w wr w1 : World} {ms : List RM} {v : Value} {m : RM}
theorem ArN.call (h : ArN w ms v wr) (hb : Below wr.heap.size wr w1) : ArN w ms v w1 :=
  ⟨own_keepN h.own hb, h.below.trans (hb.mono h.below.size), h.fits, fun m hm => own_keepN (h.each m hm) hb, h.away, h.apart⟩
theorem ArN.set (h : ArN w ms v wr) {a : Addr} (ha : w.heap.size ≤ a.block) (hv : v.ownBlock ≠ some a.block) (hms : ∀ m ∈ ms, (slV m.2).ownBlock ≠ some a.block) (u : Value) : ArN w ms v (wr.setCell a u) :=
  ⟨ownsRow_setCell_other h.own hv u, h.below.setCell ha u, h.fits, fun m hm => ownsRow_setCell_other (h.each m hm) (hms m hm) u, h.away, h.apart⟩
/-- A record that was read just now: its labels lie in a row of the call's own, apart from all others. -/
structure MNew (w : World) (v : Value) (ms : List RM) (m : RM) (wr : World) : Prop where
  fits : Fits m.1
  own : wr.ownsRow w.heap.size 70 2 (slV m.2) m.1.labels.length (flat m.1.labels)
  away : Apart v (slV m.2)
  apart : ∀ x ∈ ms, Apart (slV x.2) (slV m.2)
theorem MNew.call (h : MNew w v ms m wr) (hb : Below wr.heap.size wr w1) : MNew w v ms m w1 := ⟨h.fits, own_keepN h.own hb, h.away, h.apart⟩
theorem ArN.app (h : ArN w ms v wr) (hm : MNew w v ms m wr) {v' : Value} (ho : w1.ownsRow w.heap.size 47 4 v' (ms.length + 1) (flatR ms ++ rcells m)) (hg : wr.grownBy w1 v.ownBlock) (hv : v'.ownBlock = v.ownBlock ∨ v'.ownBlock = some wr.heap.size) : ArN w (ms ++ [m]) v' w1 := by
  have key : ∀ x : RM, wr.ownsRow w.heap.size 70 2 (slV x.2) x.1.labels.length (flat x.1.labels) → Apart v (slV x.2) → w1.ownsRow w.heap.size 70 2 (slV x.2) x.1.labels.length (flat x.1.labels) ∧ Apart v' (slV x.2) := fun x hx ha => by
    refine ⟨hx.kept hg ?_, fun g hg2 e => ?_⟩
    · cases e : v.ownBlock with
      | none => cases e2 : (slV x.2).ownBlock with
        | none => exact .inl rfl
        | some k => exact .inr (by simp)
      | some g => exact .inr (fun e2 => ha g e e2)
    · rcases hv with hv | hv
      · rw [hv] at hg2
        exact ha g hg2 e
      · rw [hv] at hg2
        cases hg2
        have := (hx.lt _ e).2
        omega
  refine ⟨by rw [flatR_append, flatR_one, List.length_append]; exact ho, h.below.grown hg h.below.size (fun k hk => (h.own.lt k hk).1), fun x hx => ?_, fun x hx => ?_, fun x hx => ?_, ?_⟩
  · rcases List.mem_append.1 hx with hx | hx
    · exact h.fits x hx
    · rw [List.mem_singleton.1 hx]; exact hm.fits
  · rcases List.mem_append.1 hx with hx | hx
    · exact (key x (h.each x hx) (h.away x hx)).1
    · rw [List.mem_singleton.1 hx]; exact (key m hm.own hm.away).1
  · rcases List.mem_append.1 hx with hx | hx
    · exact (key x (h.each x hx) (h.away x hx)).2
    · rw [List.mem_singleton.1 hx]; exact (key m hm.own hm.away).2
  · rw [List.pairwise_append]
    exact ⟨h.apart, List.pairwise_singleton .., fun a ha b hb => by rw [List.mem_singleton.1 hb]; exact hm.apart a ha⟩
end
section
variable {w wr w1 w2 : World} {B g n : Nat}
/-! ### Lists of labels in rows of their own -/
def InB (ms : List RM) (k : Nat) : Prop := ∃ m ∈ ms, (slV m.2).ownBlock = some k
structure OnlyM (ms : List RM) (w wr : World) : Prop where
  os : wr.os = w.os
  tape : wr.tape = w.tape
  output : wr.output = w.output
  size : w.heap.size ≤ wr.heap.size
  block : ∀ k, k < w.heap.size → ¬ InB ms k → wr.heap[k]? = w.heap[k]?
variable {ms : List RM}
theorem OnlyM.refl (ms : List RM) (w : World) : OnlyM ms w w := ⟨rfl, rfl, rfl, Nat.le_refl _, fun _ _ _ => rfl⟩
theorem OnlyM.grown (h : OnlyM ms w wr) {r : Option Nat} (hr : ∀ k, r = some k → InB ms k ∨ w.heap.size ≤ k) (hg : wr.grownBy w1 r) : OnlyM ms w w1 :=
  ⟨hg.os.trans h.os, hg.tape.trans h.tape, hg.output.trans h.output, Nat.le_trans h.size hg.size, fun k hk hn =>
    (hg.block k (Nat.lt_of_lt_of_le hk h.size) (fun e => (hr k e.symm).elim hn (fun h => by omega))).trans (h.block k hk hn)⟩
theorem OnlyM.call (h : OnlyM ms w wr) (hb : Below wr.heap.size wr w1) : OnlyM ms w w1 :=
  ⟨hb.os.trans h.os, hb.tape.trans h.tape, hb.output.trans h.output, Nat.le_trans h.size hb.size, fun k hk hn =>
    (hb.block k (Nat.lt_of_lt_of_le hk h.size)).trans (h.block k hk hn)⟩
theorem OnlyM.below (h : OnlyM ms w wr) (hB : B ≤ w.heap.size) (hn : ∀ k, InB ms k → B ≤ k) : Below B w wr :=
  ⟨h.os, h.tape, h.output, h.size, fun k hk => h.block k (Nat.lt_of_lt_of_le hk hB) (fun hi => by have := hn k hi; omega)⟩
/-- The rows from the i-th on. -/
def RowsFrom (ms : List RM) (B i : Nat) (wr : World) : Prop := ∀ j (h : j < ms.length), i ≤ j → ∃ xs, wr.ownsRow B 70 2 (slV (ms[j]).2) (ms[j]).1.labels.length xs
theorem RowsFrom.mono {i k : Nat} (h : RowsFrom ms B i wr) (hk : i ≤ k) : RowsFrom ms B k wr := fun j hj hkj => h j hj (Nat.le_trans hk hkj)
theorem RowsFrom.call {i : Nat} (h : RowsFrom ms B i wr) (hb : Below wr.heap.size wr w1) : RowsFrom ms B i w1 := fun j hj hij => by
  obtain ⟨xs, hx⟩ := h j hj hij
  exact ⟨xs, own_keepN hx hb⟩
theorem apart_at (hp : ms.Pairwise fun a b => Apart (slV a.2) (slV b.2)) {i j : Nat} (hi : i < ms.length) (hj : j < ms.length) (hij : i < j) : (slV (ms[j]).2).ownBlock = Option.none ∨ (slV (ms[j]).2).ownBlock ≠ (slV (ms[i]).2).ownBlock := by
  have h := List.pairwise_iff_getElem.1 hp i j hi hj hij
  cases e : (slV (ms[j]).2).ownBlock with
  | none => exact .inl rfl
  | some k => exact .inr (fun e2 => h k e2.symm e)
/-- A cell of the i-th row is written. -/
theorem RowsFrom.set {i k : Nat} (h : RowsFrom ms B i wr) (hp : ms.Pairwise fun a b => Apart (slV a.2) (slV b.2)) (hi : i < ms.length) {nx cx : Nat} (hx : (ms[i]).2 = (some ⟨g, 0, .none⟩, nx, cx)) (u : Value) :
    RowsFrom ms B i (wr.setCell ⟨g, k, .none⟩ u) := fun j hj hij => by
  obtain ⟨xs, ho⟩ := h j hj hij
  by_cases e : i = j
  · subst e
    unfold slV at ho ⊢
    simp only [hx] at ho ⊢
    obtain rfl : (ms[i]).1.labels.length = nx := by
      rcases ho.2 with ⟨h1, _⟩ | ⟨_, _, _, h1, _⟩
      · cases h1
      · simp only [Value.slice.injEq] at h1
        exact h1.2.1.symm
    exact ⟨_, (ho.stored k u).1⟩
  · refine ⟨xs, ownsRow_setCell_other ho ?_ u⟩
    rcases apart_at hp hi hj (by omega) with h1 | h1
    · rw [h1]
      simp
    · intro h2
      refine h1 (h2.trans ?_)
      unfold slV
      rw [hx]
      rfl
/-- The i-th row is appended to. -/
theorem RowsFrom.app {i : Nat} (h : RowsFrom ms B i wr) (hp : ms.Pairwise fun a b => Apart (slV a.2) (slV b.2)) (hi : i < ms.length) (hg : wr.grownBy w1 (slV (ms[i]).2).ownBlock) : RowsFrom ms B (i + 1) w1 := fun j hj hij => by
  obtain ⟨xs, ho⟩ := h j hj (by omega)
  exact ⟨xs, ho.kept hg (apart_at hp hi hj (by omega))⟩
/-- Records in a row of the call's own, their labels each in a row of its own, all from the block B on. -/
structure ArO (B : Nat) (ms : List RM) (v : Value) (wr : World) : Prop where
  own : wr.ownsRow B 47 4 v ms.length (flatR ms)
  fits : ∀ m ∈ ms, Fits m.1
  each : ∀ m ∈ ms, wr.ownsRow B 70 2 (slV m.2) m.1.labels.length (flat m.1.labels)
  away : ∀ m ∈ ms, Apart v (slV m.2)
  apart : ms.Pairwise fun a b => Apart (slV a.2) (slV b.2)
variable {v : Value}
theorem ArO.of {w0 : World} (h : ArN w0 ms v wr) : ArO w0.heap.size ms v wr := ⟨h.own, h.fits, h.each, h.away, h.apart⟩
theorem ArO.call (h : ArO B ms v wr) (hb : Below wr.heap.size wr w1) : ArO B ms v w1 :=
  ⟨own_keepN h.own hb, h.fits, fun m hm => own_keepN (h.each m hm) hb, h.away, h.apart⟩
theorem ArO.grown (h : ArO B ms v wr) {r : Option Nat} (hg : wr.grownBy w1 r) (hr : ∀ k, r = some k → k < B) : ArO B ms v w1 := by
  have key : ∀ {e : TypeId} {s n : Nat} {x : Value} {xs : List Value}, wr.ownsRow B e s x n xs → w1.ownsRow B e s x n xs := fun {e s n x xs} hx => hx.kept hg (by
    cases e2 : x.ownBlock with
    | none => exact .inl rfl
    | some k => exact .inr (fun e3 => by have h1 := hr k e3.symm; have h2 := (hx.lt k e2).1; omega))
  exact ⟨key h.own, h.fits, fun m hm => key (h.each m hm), h.away, h.apart⟩
theorem ArO.only {ns : List RM} (h : ArO B ns v w) (ho : OnlyM ms w wr) (hn : ∀ k, InB ms k → k < B) : ArO B ns v wr := by
  have key : ∀ {e : TypeId} {s n : Nat} {x : Value} {xs : List Value}, w.ownsRow B e s x n xs → wr.ownsRow B e s x n xs := fun {e s n x xs} hx => by
    refine ⟨hx.1, ?_⟩
    rcases hx.2 with h1 | ⟨g, cap, cur, rfl, hb, hg, r⟩
    · exact .inl h1
    · exact .inr ⟨g, cap, cur, rfl, hb, (ho.block g (Array.getElem?_eq_some_iff.1 hg).1 (fun hi => by have := hn g hi; omega)).trans hg, r⟩
  exact ⟨key h.own, h.fits, fun m hm => key (h.each m hm), h.away, h.apart⟩
theorem ArO.inb (h : ArO B ms v wr) {k : Nat} (hk : InB ms k) : B ≤ k ∧ k < wr.heap.size := by
  obtain ⟨m, hm, e⟩ := hk
  exact (h.each m hm).lt k e
theorem ArO.rows (h : ArO B ms v wr) : RowsFrom ms B 0 wr := fun _j hj _ => ⟨_, h.each _ (List.getElem_mem hj)⟩
/-- The list's own row isn't touched. -/
theorem ArO.keep (h : ArO B ms v w) (ho : OnlyM ms w wr) : wr.ownsRow B 47 4 v ms.length (flatR ms) := by
  refine ⟨h.own.1, ?_⟩
  rcases h.own.2 with h1 | ⟨g, cap, cur, rfl, hb, hg, r⟩
  · exact .inl h1
  · refine .inr ⟨g, cap, cur, rfl, hb, (ho.block g (Array.getElem?_eq_some_iff.1 hg).1 ?_).trans hg, r⟩
    rintro ⟨m, hm, e⟩
    exact h.away m hm g rfl e
theorem ArO.rl (h : ArO B ms v wr) : ∃ A c, v = .slice A ms.length c ∧ Rl wr A ms.length c ms := by
  obtain ⟨A, c, e, h1, h2, h3⟩ := own_row h.own (flatR_len ms)
  refine ⟨A, c, e, rfl, h1, h2, h3, fun m hm => ?_⟩
  obtain ⟨A1, c1, e1, hl⟩ := own_lb (h.each m hm)
  unfold slV at e1
  simp only [Value.slice.injEq] at e1
  obtain ⟨e2, e3, e4⟩ := e1
  exact ⟨by rw [e2, e3, e4]; exact hl, h.fits m hm⟩
end
end Go.Proofs.YtkgmcabamhpjhaaGreat.HdMem

namespace Go.Proofs.YtkgmcabamhpjhaaGreat.HdKm
open Go Go.RowKit Words AppN Less LbSpec LbMem RcSpec RcAll RcMem HdMem UtOwn Km

/-- Only blocks whose number is in S have changed, in what they hold or in their number; new ones have come. -/
structure Mo (K K' : Nat → Nat) (S : Nat → Prop) (w w' : World) : Prop where
  os : w'.os = w.os
  tape : w'.tape = w.tape
  output : w'.output = w.output
  size : w.heap.size ≤ w'.heap.size
  keep : ∀ i, i < w.heap.size → ¬ S (K i) → w'.heap[i]? = w.heap[i]? ∧ K' i = K i
section
variable {K K' K'' : Nat → Nat} {S S' : Nat → Prop} {w w' w'' : World}
theorem Mo.refl (K : Nat → Nat) (S : Nat → Prop) (w : World) : Mo K K S w w := ⟨rfl, rfl, rfl, Nat.le_refl _, fun _ _ _ => ⟨rfl, rfl⟩⟩
theorem Mo.trans (h : Mo K K' S w w') (h' : Mo K' K'' S w' w'') : Mo K K'' S w w'' :=
  ⟨h'.os.trans h.os, h'.tape.trans h.tape, h'.output.trans h.output, Nat.le_trans h.size h'.size, fun i hi hk => by
    obtain ⟨a, b⟩ := h.keep i hi hk
    obtain ⟨c, d⟩ := h'.keep i (Nat.lt_of_lt_of_le hi h.size) (by rw [b]; exact hk)
    exact ⟨c.trans a, d.trans b⟩⟩
theorem Mo.widen (h : Mo K K' S w w') (hS : ∀ o, S o → S' o) : Mo K K' S' w w' := ⟨h.os, h.tape, h.output, h.size, fun i hi hk => h.keep i hi (fun e => hk (hS _ e))⟩
theorem Mo.new (hb : Below w.heap.size w w') (m : Nat) : Mo K (kmark K w.heap.size m) S w w' := ⟨hb.os, hb.tape, hb.output, hb.size, fun i hi _ => ⟨hb.block i hi, if_pos hi⟩⟩
theorem Mo.same (hb : Below w.heap.size w w') : Mo K K S w w' := ⟨hb.os, hb.tape, hb.output, hb.size, fun i hi _ => ⟨hb.block i hi, rfl⟩⟩
theorem Mo.of_mv (h : Mv K K' S w w') : Mo K K' S w w' := ⟨h.os, h.tape, h.output, h.size, fun i hi hk => ⟨h.block i hi hk, h.kind i hi⟩⟩
theorem Mo.below (h : Mo K K' S w w') {B : Nat} (hB : B ≤ w.heap.size) (hS : ∀ i, i < B → ¬ S (K i)) : Below B w w' := ⟨h.os, h.tape, h.output, h.size, fun i hi => (h.keep i (by omega) (hS i hi)).1⟩
theorem Mo.poke {a : Addr} (u : Value) (h : S (K a.block)) : Mo K K S w (w.setCell a u) := Mo.of_mv (Mv.poke u h)
theorem Mo.call (h : Mo K K' S w w') (hb : Below w'.heap.size w' w'') : Mo K K' S w w'' := h.trans (Mo.same hb)
theorem Mo.drew (h : Mo K K' S w w') (k : Nat) : Mo K K' S w (w'.drewN k) := ⟨h.os, h.tape, h.output, h.size, h.keep⟩
theorem rd_mo {A : Option Addr} {vs : List Value} (h : Mo K K' S w w') (hr : Rd w w.heap.size A vs) (hk : ∀ b off, A = some ⟨b, off, none⟩ → 0 < vs.length → ¬ S (K b)) : Rd w' w'.heap.size A vs ∧ ∀ b off, A = some ⟨b, off, none⟩ → 0 < vs.length → K' b = K b := by
  refine ⟨fun hn => ?_, fun b off e hn => ?_⟩
  · obtain ⟨b, off, e, hb, hc⟩ := hr hn
    refine ⟨b, off, e, Nat.lt_of_lt_of_le hb h.size, fun j u hu => ?_⟩
    rw [World.cell?_of_block (a := ⟨b, off + j, none⟩) (h.keep b hb (hk b off e hn)).1]
    exact hc j u hu
  · obtain ⟨b', off', e', hb', _⟩ := hr hn
    rw [e] at e'
    injection e' with e'
    injection e' with e'
    subst e'
    exact (h.keep b hb' (hk b off e hn)).2
theorem own_mo {base n size m : Nat} {e : TypeId} {v : Value} {xs : List Value} (h : w.ownsRow base e size v n xs) (hk : ∀ q, v.ownBlock = some q → K q = m) (ht : Mo K K' S w w') (hm : ¬ S m) : w'.ownsRow base e size v n xs ∧ ∀ q, v.ownBlock = some q → K' q = m := by
  obtain ⟨h1, h2⟩ := h
  rcases h2 with ⟨rfl, h2⟩ | ⟨g, cap, cur, rfl, h3, h4, h5⟩
  · exact ⟨⟨h1, .inl ⟨rfl, h2⟩⟩, fun q e => by cases e⟩
  · have hg := (Array.getElem?_eq_some_iff.1 h4).1
    have hk1 := hk g rfl
    have hkeep := ht.keep g hg (by rw [hk1]; exact hm)
    refine ⟨⟨h1, .inr ⟨g, cap, cur, rfl, h3, hkeep.1.trans h4, h5⟩⟩, fun q e => ?_⟩
    injection e with e
    subst e
    exact hkeep.2.trans hk1
end

/-! ### Lists of records in blocks of numbers -/
structure Lies (K : Nat → Nat) (S : Nat → Prop) (A : Option Addr) (ms : List RM) : Prop where
  row : ∀ b off, A = some ⟨b, off, none⟩ → 0 < ms.length → S (K b)
  labs : ∀ m ∈ ms, ∀ b off, m.2.1 = some ⟨b, off, none⟩ → 0 < m.1.labels.length → S (K b)
section
variable {K K' K'' : Nat → Nat} {S T : Nat → Prop} {w w' w'' : World}
theorem Lies.widen {A : Option Addr} {ms : List RM} (h : Lies K S A ms) (hS : ∀ o, S o → T o) : Lies K T A ms := ⟨fun b off e hn => hS _ (h.row b off e hn), fun m hm b off e hn => hS _ (h.labs m hm b off e hn)⟩
theorem flatR_pos {ms : List RM} : 0 < (flatR ms).length ↔ 0 < ms.length := by rw [flatR_len]; omega
theorem flat_pos {l : List Lab} : 0 < (flat l).length ↔ 0 < l.length := by rw [flat_len]; omega
theorem okm_mo {m : RM} (h : Okm w m) (ht : Mo K K' T w w') (hk : ∀ b off, m.2.1 = some ⟨b, off, none⟩ → 0 < m.1.labels.length → ¬ T (K b)) : Okm w' m ∧ ∀ b off, m.2.1 = some ⟨b, off, none⟩ → 0 < m.1.labels.length → K' b = K b := by
  obtain ⟨h1, h2⟩ := rd_mo ht h.labs.2.2.2 (fun b off e hn => hk b off e (flat_pos.1 hn))
  exact ⟨⟨⟨h.labs.1, h.labs.2.1, h.labs.2.2.1, h1⟩, h.fits⟩, fun b off e hn => h2 b off e (flat_pos.2 hn)⟩
theorem rl_mo {A : Option Addr} {n c : Nat} {ms : List RM} (h : Rl w A n c ms) (hl : Lies K S A ms) (ht : Mo K K' T w w') (hd : ∀ o, S o → ¬ T o) : Rl w' A n c ms ∧ Lies K' S A ms := by
  obtain ⟨h1, h2⟩ := rd_mo ht h.rd (fun b off e hn => hd _ (hl.row b off e (flatR_pos.1 hn)))
  refine ⟨⟨h.len, h.le, h.cap, h1, fun m hm => (okm_mo (h.each m hm) ht (fun b off e hn => hd _ (hl.labs m hm b off e hn))).1⟩, ⟨fun b off e hn => ?_, fun m hm b off e hn => ?_⟩⟩
  · rw [h2 b off e (flatR_pos.2 hn)]; exact hl.row b off e hn
  · rw [(okm_mo (h.each m hm) ht (fun b off e hn => hd _ (hl.labs m hm b off e hn))).2 b off e hn]; exact hl.labs m hm b off e hn
/-- What came in lies where it lay. -/
theorem Lies.of_below {A : Option Addr} {n c : Nat} {ms : List RM} (h : Rl w A n c ms) (hk : ∀ i, i < w.heap.size → S (K i)) : Lies K S A ms := by
  refine ⟨fun b off e hn => ?_, fun m hm b off e hn => ?_⟩
  · obtain ⟨b', off', e', hb', _⟩ := h.rd (flatR_pos.2 hn)
    rw [e] at e'
    cases e'
    exact hk b hb'
  · obtain ⟨b', off', e', hb', _⟩ := (h.each m hm).labs.2.2.2 (flat_pos.2 hn)
    rw [e] at e'
    cases e'
    exact hk b hb'
theorem Lies.below {A : Option Addr} {n c : Nat} {ms : List RM} (h : Rl w A n c ms) (hl : Lies K S A ms) (hk : ∀ i, i < w.heap.size → K' i = K i) : Lies K' S A ms := by
  refine ⟨fun b off e hn => ?_, fun m hm b off e hn => ?_⟩
  · obtain ⟨b', off', e', hb', _⟩ := h.rd (flatR_pos.2 hn)
    have h2 := hl.row b off e hn
    rw [e] at e'
    cases e'
    rw [hk b hb']
    exact h2
  · obtain ⟨b', off', e', hb', _⟩ := (h.each m hm).labs.2.2.2 (flat_pos.2 hn)
    have h2 := hl.labs m hm b off e hn
    rw [e] at e'
    cases e'
    rw [hk b hb']
    exact h2
end

/-- Records that a call has answered: in rows of its own, of the number k. -/
structure Res (K : Nat → Nat) (k : Nat) (ms : List RM) (v : Value) (w : World) : Prop where
  own : ArO 0 ms v w
  row : ∀ q, v.ownBlock = some q → K q = k
  labs : ∀ q, InB ms q → K q = k
section
variable {K K' : Nat → Nat} {S : Nat → Prop} {w w' : World} {k : Nat} {ms : List RM} {v : Value}
theorem Res.mo (h : Res K k ms v w) (ht : Mo K K' S w w') (hk : ¬ S k) : Res K' k ms v w' := by
  obtain ⟨h1, h2⟩ := own_mo h.own.own h.row ht hk
  have h3 : ∀ m ∈ ms, w'.ownsRow 0 70 2 (slV m.2) m.1.labels.length (flat m.1.labels) ∧ ∀ q, (slV m.2).ownBlock = some q → K' q = k := fun m hm => own_mo (h.own.each m hm) (fun q hq => h.labs q ⟨m, hm, hq⟩) ht hk
  exact ⟨⟨h1, h.own.fits, fun m hm => (h3 m hm).1, h.own.away, h.own.apart⟩, h2, fun q ⟨m, hm, hq⟩ => (h3 m hm).2 q hq⟩
theorem Res.rl (h : Res K k ms v w) : ∃ A c, v = .slice A ms.length c ∧ Rl w A ms.length c ms ∧ Lies K (fun x => x = k) A ms := by
  obtain ⟨A, c, rfl, hl⟩ := h.own.rl
  refine ⟨A, c, rfl, hl, ⟨fun b off e hn => ?_, fun m hm b off e hn => ?_⟩⟩
  · rcases h.own.own.2 with ⟨h0, h1⟩ | ⟨g, cap, cur, h0, _⟩
    · injection h0 with h0 h2
      omega
    · refine h.row b ?_
      injection h0 with h0
      rw [e] at h0
      rw [e]
      cases h0
      rfl
  · rcases (h.own.each m hm).2 with ⟨h0, h1⟩ | ⟨g, cap, cur, h0, _⟩
    · unfold slV at h0
      injection h0 with h0
      rw [e] at h0
      cases h0
    · refine h.labs b ⟨m, hm, ?_⟩
      unfold slV at h0 ⊢
      injection h0 with h0
      rw [e] at h0 ⊢
      cases h0
      rfl
end
end Go.Proofs.YtkgmcabamhpjhaaGreat.HdKm

namespace Go.Proofs.YtkgmcabamhpjhaaGreat.HdLaw
open Go Go.RowKit Words Less LbSpec LbMem RcSpec RcAll RcMem RcOpen HdMem HdSpec HdKm Km

/-- Texts, in memory that lies as it did but for what is new. -/
def TPost (ws : List (List UInt8)) (w : World) (e : Ending) (w' : World) : Prop :=
  ∃ A c, e = .returned (.slice A ws.length c) ∧ ws.length ≤ c ∧ c ≤ maxLen ∧ Rd w' w'.heap.size A (ws.map S8) ∧ Below w.heap.size w w'
/-- Texts, in a row of the call's own. -/
def OPost (ws : List (List UInt8)) (w : World) (e : Ending) (w' : World) : Prop :=
  ∃ v, e = .returned v ∧ w'.ownsRow w.heap.size 9 1 v ws.length (ws.map S8) ∧ Below w.heap.size w w'
section
variable (HeadR : World → (Nat → Nat) → Nat → Nat → HSt → Prop)
/-- What a call on the head of number o leaves. -/
def HPost (w : World) (K : Nat → Nat) (o p : Nat) (h : HSt) (w' : World) : Prop := ∃ K', HeadR w' K' o p h ∧ Mo K K' (fun x => x = o) w w'
/-- Records are answered, in rows of the number m. -/
def RPost (w : World) (K : Nat → Nat) (o p m : Nat) (l : List Rec) (h : HSt) (e : Ending) (w' : World) : Prop :=
  ∃ v ms K', e = .returned v ∧ recsOf ms = l ∧ Res K' m ms v w' ∧ HeadR w' K' o p h ∧ Mo K K' (fun x => x = o) w w'
/-- Places are answered, in a row of the number m. -/
def FPost (w : World) (K : Nat → Nat) (o p m : Nat) (l : List UInt64) (h : HSt) (e : Ending) (w' : World) : Prop :=
  ∃ A c K', e = .returned (.slice A l.length c) ∧ l.length ≤ c ∧ c ≤ maxLen ∧ Rd w' w'.heap.size A (l.map B64) ∧ (∀ b off, A = some ⟨b, off, none⟩ → 0 < l.length → K' b = m) ∧ HeadR w' K' o p h ∧ Mo K K' (fun x => x = o) w w'
/-- The program's heads. -/
structure Hed : Prop where
  keep : ∀ {w w' : World} {K K' : Nat → Nat} {o p : Nat} {h : HSt}, HeadR w K o p h → w.heap.size ≤ w'.heap.size → (∀ i, i < w.heap.size → K i = o → w'.heap[i]? = w.heap[i]? ∧ K' i = o) → HeadR w' K' o p h
  good : ∀ {w : World} {K : Nat → Nat} {o p : Nat} {h : HSt}, HeadR w K o p h → HdSpec.Good h
  termsO : ∀ (w : World) (m : RM), Okm w m → sizeR m.1 ≤ 2097152 → Calls Tryz.prog 24 #[aggR m] w (OPost (HdSpec.terms m.1) w)
  new : ∀ (w : World) (K : Nat → Nat) (o : Nat), Calls Tryz.prog 8 #[] w fun e w' => ∃ p K', e = .returned (.pointer (some ⟨p, 0, none⟩)) ∧ HeadR w' K' o p HdSpec.new ∧ Mo K K' (fun _ => False) w w'
  add : ∀ (w : World) (K : Nat → Nat) (o p : Nat) (h : HSt) (ms : List RM) (A : Option Addr) (n c : Nat), HeadR w K o p h → Rl w A n c ms → Lies K (fun x => x ≠ o) A ms → totalR ms ≤ 2097152 →
    Calls Tryz.prog 11 #[(.pointer (some ⟨p, 0, none⟩)), .slice A n c] w fun e w' => e = .returned (.int .i64 (addE h (recsOf ms) : Int)) ∧ HPost HeadR w K o p (HdSpec.add h (recsOf ms)) w'
  len : ∀ (w : World) (K : Nat → Nat) (o p : Nat) (h : HSt), HeadR w K o p h → Calls Tryz.prog 22 #[(.pointer (some ⟨p, 0, none⟩))] w fun e w' => e = .returned (.int .i64 (h.recs.length : Int)) ∧ HPost HeadR w K o p h w'
  all : ∀ (w : World) (K : Nat → Nat) (o p m : Nat) (h : HSt), HeadR w K o p h → m ≠ o → Calls Tryz.prog 15 #[(.pointer (some ⟨p, 0, none⟩))] w (RPost HeadR w K o p m (HdSpec.all h) h)
  take : ∀ (w : World) (K : Nat → Nat) (o p m : Nat) (h : HSt), HeadR w K o p h → m ≠ o → Calls Tryz.prog 20 #[(.pointer (some ⟨p, 0, none⟩))] w (RPost HeadR w K o p m (HdSpec.all h) (HdSpec.taken h))
  find : ∀ (w : World) (K : Nat → Nat) (o p m : Nat) (h : HSt) (t : List UInt8), HeadR w K o p h → m ≠ o → t.length ≤ maxLen → Calls Tryz.prog 18 #[(.pointer (some ⟨p, 0, none⟩)), .string ⟨t.toArray⟩] w (FPost HeadR w K o p m (HdSpec.find (HdSpec.all h) t) h)
  addNil : ∀ (w : World) (ms : List RM) (A : Option Addr) (n c : Nat), Rl w A n c ms → totalR ms ≤ 2097152 → Calls Tryz.prog 11 #[.pointer none, .slice A n c] w fun e w' => e = .returned (.int .i64 2) ∧ Below w.heap.size w w'
  lenNil : ∀ (w : World), Calls Tryz.prog 22 #[.pointer none] w fun e w' => e = .returned (.int .i64 0) ∧ Below w.heap.size w w'
  allNil : ∀ (w : World), Calls Tryz.prog 15 #[.pointer none] w fun e w' => e = .returned (.slice none 0 0) ∧ Below w.heap.size w w'
  takeNil : ∀ (w : World), Calls Tryz.prog 20 #[.pointer none] w fun e w' => e = .returned (.slice none 0 0) ∧ Below w.heap.size w w'
  findNil : ∀ (w : World) (t : List UInt8), t.length ≤ maxLen → Calls Tryz.prog 18 #[.pointer none, .string ⟨t.toArray⟩] w fun e w' => e = .returned (.slice none 0 0) ∧ Below w.heap.size w w'
  check : ∀ (w : World) (m : RM), Okm w m → Calls Tryz.prog 26 #[aggR m] w fun e w' => e = .returned (.int .i64 (RcSpec.check m.1 : Int)) ∧ Below w.heap.size w w'
  compare : ∀ (w : World) (a b : RM), Okm w a → Okm w b → Calls Tryz.prog 27 #[aggR a, aggR b] w fun e w' => e = .returned (.int .i64 (cmpR a.1 b.1)) ∧ Below w.heap.size w w'
end
section
variable {HeadR : World → (Nat → Nat) → Nat → Nat → HSt → Prop}
theorem Hed.terms (P : Hed HeadR) (w : World) (m : RM) (h : Okm w m) (hz : sizeR m.1 ≤ 2097152) : Calls Tryz.prog 24 #[aggR m] w (TPost (HdSpec.terms m.1) w) :=
  (P.termsO w m h hz).mono fun e w' ⟨v, he, ho, hb⟩ => by
    obtain ⟨A, c, rfl, h1, h2, _⟩ := UtOwn.own_slice ho
    exact ⟨A, c, he, h1, h2, Rd.of_own ho, hb⟩
theorem Hed.mo (P : Hed HeadR) {w w' : World} {K K' : Nat → Nat} {S : Nat → Prop} {o p : Nat} {h : HSt} (hr : HeadR w K o p h) (ht : Mo K K' S w w') (ho : ¬ S o) : HeadR w' K' o p h :=
  P.keep hr ht.size fun i hi hk => by
    have := ht.keep i hi (by rw [hk]; exact ho)
    exact ⟨this.1, this.2.trans hk⟩
theorem Hed.below (P : Hed HeadR) {w w' : World} {K : Nat → Nat} {o p : Nat} {h : HSt} (hr : HeadR w K o p h) (hb : Below w.heap.size w w') : HeadR w' K o p h := P.mo hr (Mo.same (S := fun _ => False) hb) (fun h => h)
end
end Go.Proofs.YtkgmcabamhpjhaaGreat.HdLaw

namespace Go.Proofs.YtkgmcabamhpjhaaGreat.HdAwake
open Go Go.RowKit Words Less LbSpec LbMem RcSpec RcAll RcMem LbOpen RcOpen HdSpec HdMem HdKm HdLaw TxSame Km

def r1 : Rec := ⟨5, 1, [], [98]⟩
def r2 : Rec := ⟨3, 2, [], [97, 32, 98]⟩
def r3 : Rec := ⟨0, 2, [], []⟩
def r4 : Rec := ⟨0, 0, [], [71, 69, 84, 32, 103, 101, 116, 32, 120]⟩
def st1 : HSt := ⟨[r1, r2], some 2⟩
theorem aw1 : addE HdSpec.new [r1, r2] = 0 := by decide +kernel
theorem aw2 : add HdSpec.new [r1, r2] = st1 := by unfold add; rw [if_pos aw1]; rfl
theorem aw3 : all st1 = [r2, r1] := by unfold all; rfl
theorem aw4 : addE st1 [r3] = 6 := by decide +kernel
theorem aw5 : add st1 [r3] = st1 := by unfold add; rw [if_neg (by rw [aw4]; decide)]
theorem aw6 : HdSpec.find [r2, r1] [98] = [0, 1] := by decide +kernel
theorem aw7 : terms r4 = [[103, 101, 116], [120]] := by decide +kernel

/-- A record without labels. -/
abbrev bare (r : Rec) : RM := (r, .none, 0, 0)
theorem okm_bare (w : World) (r : Rec) (hl : r.labels = []) (hf : Fits r) : Okm w (bare r) := ⟨⟨by rw [hl]; rfl, Nat.le_refl _, by show 0 ≤ maxLen; omega, by rw [hl]; exact Rd.nil_⟩, hf⟩
/-- A list of such records in memory that was made just now. -/
theorem rl_made (w : World) (rs : List Rec) (hl : ∀ r ∈ rs, r.labels = []) (hf : ∀ r ∈ rs, Fits r) (hn : rs.length ≤ 65536) (K : Nat → Nat) (o : Nat) (ho : o ≠ 0) (cs : Array Value) (hcs : cs.toList = flatR (rs.map bare)) :
    Rl (w.alloc (.cells cs 47)) (some ⟨w.heap.size, 0, .none⟩) rs.length rs.length (rs.map bare) ∧ Lies (kmark K w.heap.size 0) (fun x => x ≠ o) (some ⟨w.heap.size, 0, .none⟩) (rs.map bare) := by
  refine ⟨⟨by simp, Nat.le_refl _, by unfold maxLen; omega, ?_, fun m hm => ?_⟩, ⟨fun b off e _ => ?_, fun m hm b off e hn => ?_⟩⟩
  · have h := Rd.made' w cs 47
    rw [hcs] at h
    exact h
  · obtain ⟨r, hr, rfl⟩ := List.mem_map.1 hm
    exact okm_bare _ r (hl r hr) (hf r hr)
  · cases e
    rw [kmark_new (Nat.le_refl _)]
    exact fun e => ho e.symm
  · obtain ⟨r, hr, rfl⟩ := List.mem_map.1 hm
    rw [show (bare r).1.labels = [] from hl r hr] at hn
    simp at hn
theorem eq_some (b o : Nat) (w : World) : (binOp .eql 24 (.pointer (some ⟨b, o, .none⟩)) (.pointer .none)).run Tryz.prog w = .ok (.bool false) w := by kernel_rfl
theorem fits_small {r : Rec} (h1 : 0 ≤ r.time) (h2 : r.time ≤ 100) (h3 : r.seq ≤ 4294967296) : Fits r := by unfold Fits Time64; omega

set_option maxHeartbeats 6400000 in
set_option maxRecDepth 100000 in
theorem awake_any {HeadR : World → (Nat → Nat) → Nat → Nat → HSt → Prop} (P : Hed HeadR) (w : World) : Calls Tryz.prog 7 #[] w fun e w' => e = .returned (.bool true) ∧ Below w.heap.size w w' := by
  have C0 := Lib.hid (P.new w (fun _ => 0) 1)
  go_enter Tryz.func7, Tryz.ntmps7
  go_wp2_with fail
  refine C0.out.mono ?_
  rintro e w1 ⟨p, K1, rfl, hr1, hm1⟩
  have hn := eq_some p 0
  have HM1 := Lib.hid (hm1.widen (S' := fun x => x = 1) (fun _ h => h.elim))
  obtain ⟨hx1, hl1⟩ := rl_made w1 [r1, r2] (by decide) (by intro r hr; simp at hr; rcases hr with rfl | rfl <;> exact fits_small (by decide) (by decide) (by decide)) (by decide) K1 1 (by decide) #[.int .i64 5, .int .u64 1, .slice .none 0 0, .string ⟨#[98]⟩, .int .i64 3, .int .u64 2, .slice .none 0 0, .string ⟨#[97, 32, 98]⟩] rfl
  have hw2 : Below w1.heap.size w1 (w1.alloc (.cells #[.int .i64 5, .int .u64 1, .slice .none 0 0, .string ⟨#[98]⟩, .int .i64 3, .int .u64 2, .slice .none 0 0, .string ⟨#[97, 32, 98]⟩] 47)) := (Below.refl _ w1).alloc (Nat.le_refl _) _
  have hm2 : Mo K1 (kmark K1 w1.heap.size 0) (fun _ => False) w1 (w1.alloc (.cells #[.int .i64 5, .int .u64 1, .slice .none 0 0, .string ⟨#[98]⟩, .int .i64 3, .int .u64 2, .slice .none 0 0, .string ⟨#[97, 32, 98]⟩] 47)) := Mo.new hw2 0
  have CA := Lib.hid (P.add _ _ 1 p HdSpec.new _ _ _ _ (P.mo hr1 hm2 (fun h => h)) hx1 hl1 (by decide +kernel))
  have HM2 := Lib.hid (HM1.out.trans (hm2.widen (S' := fun x => x = 1) (fun _ h => h.elim)))
  rw [show recsOf ([r1, r2].map bare) = [r1, r2] from rfl, aw1, aw2] at CA
  clear C0 hr1 hm1 hx1 hl1 hw2 hm2 HM1
  go_wp2_with fail
  refine CA.out.mono ?_
  rintro e w3 ⟨rfl, K3, hr3, hm3⟩
  have HM3 := Lib.hid (HM2.out.trans hm3)
  have CL := Lib.hid (P.all w3 K3 1 p 3 st1 hr3 (by decide))
  rw [aw3] at CL
  clear CA hr3 hm3 HM2
  go_wp2_with fail
  refine CL.out.mono ?_
  rintro e w4 ⟨v4, ms4, K4, rfl, hms4, hres4, hr4, hm4⟩
  have HM4 := Lib.hid (HM3.out.trans hm4)
  have HRES4 := Lib.hid hres4
  obtain ⟨A4, c4, rfl, hrl4, hli4⟩ := hres4.rl
  have h42 : ms4.length = 2 := by have := congrArg List.length hms4; simpa [recsOf] using this
  rw [h42]
  have H42 := Lib.hid h42
  have HMS4 := Lib.hid hms4
  obtain ⟨hx5, hl5⟩ := rl_made w4 [r3] (by decide) (by intro r hr; simp at hr; subst hr; exact fits_small (by decide) (by decide) (by decide)) (by decide) K4 1 (by decide) #[.int .i64 0, .int .u64 2, .slice .none 0 0, .string ⟨#[]⟩] rfl
  have hm5 : Mo K4 (kmark K4 w4.heap.size 0) (fun _ => False) w4 (w4.alloc (.cells #[.int .i64 0, .int .u64 2, .slice .none 0 0, .string ⟨#[]⟩] 47)) := Mo.new ((Below.refl _ w4).alloc (Nat.le_refl _) _) 0
  have CB := Lib.hid (P.add _ _ 1 p st1 _ _ _ _ (P.mo hr4 hm5 (fun h => h)) hx5 hl5 (by decide +kernel))
  rw [show recsOf ([r3].map bare) = [r3] from rfl, aw4, aw5] at CB
  have HRL5 := Lib.hid (rl_mo hrl4 hli4 hm5 (fun _ _ h => h))
  have HM5 := Lib.hid (HM4.out.trans (hm5.widen (S' := fun x => x = 1) (fun _ h => h.elim)))
  clear CL hms4 hres4 hr4 hm4 hrl4 hli4 hx5 hl5 hm5 HM3 HM4 HRES4 h42
  go_wp2_with fail
  refine CB.out.mono ?_
  rintro e w6 ⟨rfl, K6, hr6, hm6⟩
  obtain ⟨hrl6, hli6⟩ := rl_mo HRL5.out.1 HRL5.out.2 hm6 (by rintro q rfl; decide)
  have HM6 := Lib.hid (HM5.out.trans hm6)
  have CF := Lib.hid (P.find w6 K6 1 p 4 st1 [98] hr6 (by decide) (by decide))
  rw [aw3, aw6] at CF
  unfold FPost at CF
  rw [show ([0, 1] : List UInt64).length = 2 from rfl] at CF
  obtain ⟨b4, o4, rfl, hb4, hc4⟩ := hrl6.rd (by rw [flatR_len, H42.out]; decide)
  have q1 : w6.cell? ⟨b4, o4 + 1, .none⟩ = some (.int .u64 2) := by
    have h0 := (cellsR hc4 (k := 0) (by rw [H42.out]; decide)).2.1
    have h1 : (ms4[0]'(by rw [H42.out]; decide)).1 = r2 := by
      have := congrArg (fun l => l[0]?) HMS4.out
      simpa [recsOf, H42.out] using this
    rw [h1] at h0
    simpa [r2] using h0
  clear CB hr6 hm6 hrl6 hli6 HM5 HRL5 hc4 hb4
  go_wp2_with fail
  refine CF.out.mono ?_
  rintro e w7 ⟨A7, c7, K7, rfl, hc7, hcm7, hrd7, _, hr7, hm7⟩
  have HM7 := Lib.hid (HM6.out.trans hm7)
  have hw8 : Below w7.heap.size w7 (w7.alloc (.cells #[.int .u64 0, .int .u64 1] 44)) := (Below.refl _ w7).alloc (Nat.le_refl _) _
  have HM8 : Hid (Mo (fun _ => 0) K7 (fun x => x = 1) w (w7.alloc (.cells #[.int .u64 0, .int .u64 1] 44))) := Lib.hid (HM7.out.call hw8)
  have CS := Lib.hid (Need.same_eq [0, 1] A7 (some ⟨w7.heap.size, 0, .none⟩) 2 2 c7 2 (w7.alloc (.cells #[.int .u64 0, .int .u64 1] 44)) _ _ rfl rfl (hrd7.below hw8) (Rd.made w7 #[.int .u64 0, .int .u64 1] 44) (by decide))
  clear CF hr7 hm7 hw8 hrd7 HM6 HM7 q1
  go_wp2_with fail
  refine CS.out.mono ?_
  rintro e w8 ⟨rfl, nq, rfl⟩
  obtain ⟨w9, hw9⟩ : ∃ w9, (w7.alloc (.cells #[.int .u64 0, .int .u64 1] 44)).drewN nq = w9 := ⟨_, rfl⟩
  have HM9 : Hid (Mo (fun _ => 0) K7 (fun x => x = 1) w w9) := Lib.hid (hw9 ▸ HM8.out.drew nq)
  rw [hw9]
  have CT := Lib.hid (P.terms w9 (bare r4) (okm_bare w9 r4 rfl (fits_small (by decide) (by decide) (by decide))) (by decide))
  rw [show (bare r4).1 = r4 from rfl, aw7] at CT
  unfold TPost at CT
  rw [show ([[103, 101, 116], [120]] : List (List UInt8)).length = 2 from rfl] at CT
  clear CS HM8 hw9
  go_wp2_with fail
  refine CT.out.mono ?_
  rintro e w10 ⟨A10, c10, rfl, hc10, hcm10, hrd10, hb10⟩
  have HM10 := Lib.hid (HM9.out.call hb10)
  have hw11 : Below w10.heap.size w10 (w10.alloc (.cells #[.string ⟨#[103, 101, 116]⟩, .string ⟨#[120]⟩] 9)) := (Below.refl _ w10).alloc (Nat.le_refl _) _
  have HM11 : Hid (Mo (fun _ => 0) K7 (fun x => x = 1) w (w10.alloc (.cells #[.string ⟨#[103, 101, 116]⟩, .string ⟨#[120]⟩] 9))) := Lib.hid (HM10.out.call hw11)
  have CU := Lib.hid (same_any (w10.alloc (.cells #[.string ⟨#[103, 101, 116]⟩, .string ⟨#[120]⟩] 9)) [[103, 101, 116], [120]] [[103, 101, 116], [120]] A10 (some ⟨w10.heap.size, 0, .none⟩) c10 2 _ _ (hrd10.below hw11) (Rd.made w10 #[.string ⟨#[103, 101, 116]⟩, .string ⟨#[120]⟩] 9) hc10 (by decide) hcm10 (by decide))
  rw [show (([[103, 101, 116], [120]] : List (List UInt8)) == [[103, 101, 116], [120]]) = true from rfl, show ([[103, 101, 116], [120]] : List (List UInt8)).length = 2 from rfl] at CU
  clear CT hb10 hrd10 hw11 HM9 HM10
  go_wp2_with fail
  refine CU.out.mono ?_
  rintro e w12 ⟨rfl, hb12⟩
  have HB12 : Hid (Below w.heap.size w w12) := Lib.hid ((HM11.out.call hb12).below (Nat.le_refl _) (fun i _ => by decide))
  clear CU hb12 HM11
  go_wp2
  go_ret
  exact ⟨rfl, HB12.out⟩
end Go.Proofs.YtkgmcabamhpjhaaGreat.HdAwake

