/- The program's reader in memory: four cells, its nodes in a row of the same number; slices of new memory. Of no program but for its types. No conditions. · The contracts of the program's need, next and skip. Conditions: the reader lies in memory. · The contract of the program's lay: a node more behind the reader's. Conditions: the reader lies in memory, the node's kids and set in new blocks of other numbers; fewer than 100000 nodes. -/
import Derived.Test.YtdmbgjpidlllcaaRxNodes
import Derived.Test.YtdmbgjpidlllcaaRxJoins
import Derived.BigQuiet
import Derived.IntWalk
import Derived.WalkLawsBesides
import Derived.Outline
import Derived.Deep.RegionLaw
namespace Go.Proofs.Ytdmbgjpidlllcaa.RqMem
open Go Go.RowKit Words AppN Km Mo_ RxSpec RxEq RxMem RxPeek RxClean RxNode RxPost

/-- A slice of new memory that reads as vs and can be written, in a block whose number is neither o nor o + 1. -/
structure Sq (B : Nat) (w : World) (K : Nat → Nat) (o : Nat) (s : Sl) (vs : List Value) : Prop where
  sd : Sd w K o s vs
  new : ∀ b off, s.1 = some ⟨b, off, none⟩ → 0 < vs.length → B ≤ b ∧ ∀ j, j < vs.length → w.frozen? ⟨b, off + j, none⟩ = false
theorem Sq.moT {B : Nat} {w w' : World} {K K' : Nat → Nat} {o : Nat} {s : Sl} {vs : List Value} {T : Nat → Prop} (h : Sq B w K o s vs) (hm : Mo K K' T w w') (hT : ∀ x, T x → x = o ∨ x = o + 1) : Sq B w' K' o s vs := by
  refine ⟨h.sd.moT hm hT, fun b off e hl => ?_⟩
  obtain ⟨b', off', e', hb, _⟩ := h.sd.rd hl
  obtain ⟨h1, h2⟩ := h.new b off e hl
  rw [e] at e'
  injection e' with e'
  injection e' with e' _
  subst e'
  refine ⟨h1, fun j hj => ?_⟩
  rw [frozen_up (hm.keep b hb (fun ht => by have := h.sd.kind b off e hl; have := hT _ ht; omega)).1]
  exact h2 j hj
theorem Sq.mo {B : Nat} {w w' : World} {K K' : Nat → Nat} {o : Nat} {s : Sl} {vs : List Value} (h : Sq B w K o s vs) (hm : Mo K K' (fun x => x = o) w w') : Sq B w' K' o s vs := h.moT hm fun _ h => .inl h
theorem Sq.nil_ (B : Nat) (w : World) (K : Nat → Nat) (o : Nat) : Sq B w K o (none, 0, 0) [] := ⟨Sd.nil_ w K o, fun _ _ e => by cases e⟩
/-- A node's kids and set lie where its cells say. -/
structure Okq (B : Nat) (w : World) (K : Nat → Nat) (o : Nat) (m : NM) : Prop where
  ks : Sq B w K o m.ks (m.nd.kids.map IV)
  ss : Sq B w K o m.ss (m.nd.set.map I32)
theorem Okq.moT {B : Nat} {w w' : World} {K K' : Nat → Nat} {o : Nat} {m : NM} {T : Nat → Prop} (h : Okq B w K o m) (hm : Mo K K' T w w') (hT : ∀ x, T x → x = o ∨ x = o + 1) : Okq B w' K' o m := ⟨h.ks.moT hm hT, h.ss.moT hm hT⟩
theorem Okq.mo {B : Nat} {w w' : World} {K K' : Nat → Nat} {o : Nat} {m : NM} (h : Okq B w K o m) (hm : Mo K K' (fun x => x = o) w w') : Okq B w' K' o m := ⟨h.ks.mo hm, h.ss.mo hm⟩

def qcells (s : Sl) (v : Value) (op dp : Nat) : Array Value := #[slV s, v, .int .i64 (op : Int), .int .i64 (dp : Int)]
/-- The reader in block p, its memory of the number o; its nodes at v, in blocks from B on; rs is what is left. -/
structure RQ (B : Nat) (w : World) (K : Nat → Nat) (o p : Nat) (s : Sl) (rs : List Nat) (op dp : Nat) (ms : List NM) (v : Value) : Prop where
  bp : B ≤ p
  pk : K p = o
  box : w.heap[p]? = some (.cells (qcells s v op dp) 45 (0, 0))
  runes : Sd w K o s (rs.map R32)
  own : w.ownsRow B 33 5 v ms.length (flatN ms)
  vk : ∀ b, v.ownBlock = some b → K b = o ∧ b ≠ p
  each : ∀ m ∈ ms, Okq B w K o m
section
variable {B : Nat} {w w' : World} {K K' : Nat → Nat} {o p : Nat} {s s' : Sl} {rs rs' : List Nat} {op dp op' dp' : Nat} {ms : List NM} {v : Value}
theorem RQ.lt (h : RQ B w K o p s rs op dp ms v) : p < w.heap.size := (Array.getElem?_eq_some_iff.1 h.box).1
theorem RQ.cells (h : RQ B w K o p s rs op dp ms v) : w.cell? ⟨p, 0, none⟩ = some (slV s) ∧ w.cell? ⟨p, 1, none⟩ = some v ∧ w.cell? ⟨p, 2, none⟩ = some (.int .i64 (op : Int)) ∧ w.cell? ⟨p, 3, none⟩ = some (.int .i64 (dp : Int)) :=
  ⟨RxMem.cell_of_row h.box rfl, RxMem.cell_of_row h.box rfl, RxMem.cell_of_row h.box rfl, RxMem.cell_of_row h.box rfl⟩
theorem RQ.frozen (h : RQ B w K o p s rs op dp ms v) (j : Nat) : w.frozen? ⟨p, j, none⟩ = false := frozen_of_row _ _ _ _ _ h.box
theorem RQ.moT {T : Nat → Prop} (h : RQ B w K o p s rs op dp ms v) (hm : Mo K K' T w w') (hT : ∀ x, T x → x = o + 1) : RQ B w' K' o p s rs op dp ms v := by
  have hT' : ∀ x, T x → x = o ∨ x = o + 1 := fun x hx => .inr (hT x hx)
  have hno : ¬ T o := fun h => by have := hT _ h; omega
  obtain ⟨e1, e2⟩ := hm.keep p h.lt (by rw [h.pk]; exact hno)
  refine ⟨h.bp, e2.trans h.pk, e1.trans h.box, h.runes.moT hm hT', (own_mo (m := o) h.own (fun b e => (h.vk b e).1) hm hno).1, fun b e => ?_, fun m hx => (h.each m hx).moT hm hT'⟩
  exact ⟨(own_mo (m := o) h.own (fun b e => (h.vk b e).1) hm hno).2 b e, (h.vk b e).2⟩
theorem RQ.mo (h : RQ B w K o p s rs op dp ms v) (hm : Mo K K' (fun _ => False) w w') : RQ B w' K' o p s rs op dp ms v := h.moT hm fun _ h => h.elim
theorem RQ.below (h : RQ B w K o p s rs op dp ms v) (hb : Below w.heap.size w w') : RQ B w' K o p s rs op dp ms v := h.mo (Mo.same hb)
/-- A store into one of the reader's cells. -/
theorem RQ.poke (h : RQ B w K o p s rs op dp ms v) (j : Nat) (u : Value) (hs : Sd w K o s' (rs'.map R32)) (he : (qcells s v op dp).setIfInBounds j u = qcells s' v op' dp') : RQ B (w.setCell ⟨p, j, none⟩ u) K o p s' rs' op' dp' ms v := by
  have hm : Mo K K (fun x => x = o) w (w.setCell ⟨p, j, none⟩ u) := Mo.poke (a := ⟨p, j, none⟩) u h.pk
  refine ⟨h.bp, h.pk, ?_, hs.mo hm, ?_, h.vk, fun m hx => (h.each m hx).mo hm⟩
  · rw [← he]; exact heap_setCell_same _ _ _ _ _ _ h.box
  · refine h.own.kept (row := some p) ⟨rfl, rfl, rfl, by simp, fun i _ hne => heap_setCell_other w ⟨p, j, none⟩ i u (fun e => hne (by rw [e]))⟩ ?_
    cases hb : v.ownBlock with
    | none => exact .inl rfl
    | some b => exact .inr fun e => (h.vk b hb).2 (by injection e)
theorem RQ.pokeMo (h : RQ B w K o p s rs op dp ms v) (j : Nat) (u : Value) : Mo K K (fun x => x = o) w (w.setCell ⟨p, j, none⟩ u) := Mo.poke (a := ⟨p, j, none⟩) u h.pk
/-- The next rune, and the slice behind it. -/
theorem RQ.rune {r : Nat} {t : List Nat} (h : RQ B w K o p s (r :: t) op dp ms v) : ∃ g off c, s = (some ⟨g, off, none⟩, t.length + 1, c) ∧ t.length + 1 ≤ c ∧ c ≤ maxLen ∧ w.cell? ⟨g, off, none⟩ = some (.int .i32 (r : Int)) ∧
    ∀ A, (0 < t.length → A = some ⟨g, off + 1, none⟩) → Sd w K o (A, t.length, c - 1) (t.map R32) := by
  obtain ⟨A, n, c⟩ := s
  have hn : n = t.length + 1 := by simpa using h.runes.len
  have hle := h.runes.le
  have hcm := h.runes.cap
  simp only at hle hcm
  subst hn
  obtain ⟨g, off, e, hg, hc⟩ := h.runes.rd (by simp)
  simp only at e
  subst e
  refine ⟨g, off, c, rfl, hle, hcm, by simpa [R32] using hc 0 _ rfl, fun A hA => ?_⟩
  refine ⟨by simp, by simp only; omega, by simp only; omega, fun hl => ⟨g, off + 1, hA (by simpa using hl), hg, fun j u hu => ?_⟩, fun b off' e hl => ?_⟩
  · have := hc (j + 1) u (by simpa using hu)
    rwa [show off + 1 + j = off + (j + 1) by omega]
  · have e1 := hA (by simpa using hl)
    simp only at e
    rw [e1] at e
    injection e with e
    injection e with e _
    exact e ▸ h.runes.kind g off rfl (by simp)
end
theorem from1 (b off n c : Nat) (h1 : 1 ≤ n) (hc : n ≤ c) (_hm : c ≤ maxLen) : ∃ (A1 : Option Addr), (∀ w : World, (Instr.slice 31 (.slice (some ⟨b, off, none⟩) n c) (some (.int .i64 1)) none none).run Try.prog w = .ok (.slice A1 (n - 1) (c - 1)) w) ∧ (1 < n → A1 = some ⟨b, off + 1, none⟩) := by
  refine ⟨if c = 1 then some ⟨b, off, none⟩ else some ⟨b, off + 1, none⟩, fun w => ?_, fun h => if_neg (by omega)⟩
  unfold maxLen at _hm
  have h1 : (1 : Int) ≤ (n : Int) := by omega
  have h3 : n ≤ c := hc
  by_cases h : c = 1
  · go_simp
  · go_simp
end Go.Proofs.Ytdmbgjpidlllcaa.RqMem

namespace Go.Proofs.Ytdmbgjpidlllcaa.RqNeed
open Go Go.RowKit Words AppN Km Mo_ RxSpec RxEq RxMem RqMem

/-- What the program panics with where a text is no pattern. -/
def FCH : List PanicEntry := [{ v := .iface 42 (.agg #[]), recovered := false }]
theorem need_ok (w : World) : Calls Try.prog 18 #[.bool true] w fun e w' => e = .returned (.tuple #[]) ∧ w' = w := by
  go_enter Try.func18, Try.ntmps18
  go_wp2
  go_end0
  exact ⟨rfl, rfl⟩
theorem need_no (w : World) : Calls Try.prog 18 #[.bool false] w fun e w' => e = .panicked FCH ∧ w' = w := by
  go_enter Try.func18, Try.ntmps18
  go_wp2
  exact ⟨rfl, rfl, rfl⟩
/-- A fault: the text is no pattern. -/
def FP (K : Nat → Nat) (o : Nat) (w : World) (e : Ending) (w' : World) : Prop := e = .panicked FCH ∧ ∃ K', Mo K K' (fun x => x = o) w w'
theorem FP.of {K K1 : Nat → Nat} {o : Nat} {w w1 w' : World} {e : Ending} (hm : Mo K K1 (fun x => x = o) w w1) (h : FP K1 o w1 e w') : FP K o w e w' := ⟨h.1, h.2.elim fun K' h2 => ⟨K', hm.trans h2⟩⟩
section
variable {B : Nat} {w w' : World} {K K' : Nat → Nat} {o p : Nat} {s s' : Sl} {rs rs' : List Nat} {op dp op' dp' : Nat} {ms : List NM} {v : Value}
set_option maxHeartbeats 1600000 in
theorem next_no (h : RQ B w K o p s [] op dp ms v) : Calls Try.prog 41 #[.pointer (some ⟨p, 0, none⟩)] w fun e w' => FP K o w e w' := by
  obtain ⟨c0, c1, c2, c3⟩ := h.cells
  obtain ⟨A, n, c⟩ := s
  obtain rfl : n = 0 := by simpa using h.runes.len
  unfold slV at c0
  simp only at c0
  clear h
  go_enter Try.func41, Try.ntmps41
  go_wp2_with (go_at_call 18; refine (need_no _).mono ?_; rintro e w' ⟨rfl, rfl⟩)
  exact ⟨rfl, rfl, K, Mo.refl _ _ _⟩
set_option maxHeartbeats 1600000 in
theorem next_ok {r : Nat} {t : List Nat} (h : RQ B w K o p s (r :: t) op dp ms v) : Calls Try.prog 41 #[.pointer (some ⟨p, 0, none⟩)] w fun e w' => e = .returned (.int .i32 (r : Int)) ∧ ∃ s', RQ B w' K o p s' t op dp ms v ∧ Mo K K (fun x => x = o) w w' := by
  obtain ⟨c0, c1, c2, c3⟩ := h.cells
  have f0 := h.frozen 0
  obtain ⟨g, off, c, rfl, h1, h2, hr, hS⟩ := h.rune
  obtain ⟨A, hA, hA2⟩ := from1 g off (t.length + 1) c (by omega) h1 h2
  have HQ := Lib.hid (h.poke 0 (slV (A, t.length, c - 1)) (hS A (fun hl => hA2 (by omega))) rfl)
  have HM := Lib.hid (h.pokeMo 0 (slV (A, t.length, c - 1)))
  rw [Nat.add_sub_cancel] at hA
  unfold slV at c0 HQ HM
  simp only at c0 HQ HM
  unfold maxLen at h2
  have hl : (0 : Int) < ((t.length + 1 : Nat) : Int) := by omega
  have hln : 0 < t.length + 1 := by omega
  clear hS hA2 h
  generalize t.length + 1 = n at *
  go_enter Try.func41, Try.ntmps41
  go_wp2_with (go_at_call 18; refine (need_ok _).mono ?_; rintro e w' ⟨rfl, rfl⟩)
  go_ret
  exact ⟨rfl, _, HQ.out, HM.out⟩
set_option maxHeartbeats 1600000 in
theorem skip_no (h : RQ B w K o p s rs op dp ms v) (c : Nat) (hc : hd rs c = false) : Calls Try.prog 25 #[.pointer (some ⟨p, 0, none⟩), .int .i32 (c : Int)] w fun e w' => e = .returned (.bool false) ∧ w' = w := by
  obtain ⟨c0, c1, c2, c3⟩ := h.cells
  cases rs with
  | nil =>
    obtain ⟨A, n, cc⟩ := s
    obtain rfl : n = 0 := by simpa using h.runes.len
    unfold slV at c0
    simp only at c0
    clear h hc
    go_enter Try.func25, Try.ntmps25
    go_wp2
    go_ret
    exact ⟨rfl, rfl⟩
  | cons r t =>
    obtain ⟨g, off, cc, rfl, h1, h2, hr, hS⟩ := h.rune
    rw [hd_cons] at hc
    have hne : ((r : Int) != (c : Int)) = true := by simp at hc ⊢; omega
    unfold slV at c0
    simp only at c0
    unfold maxLen at h2
    have hl : (0 : Int) < ((t.length + 1 : Nat) : Int) := by omega
    have hl0 : (((t.length + 1 : Nat) : Int) == 0) = false := by simp; omega
    clear hS h hc
    generalize t.length + 1 = n at *
    go_enter Try.func25, Try.ntmps25
    go_wp2
    go_ret
    exact ⟨rfl, rfl⟩
set_option maxHeartbeats 1600000 in
theorem skip_yes (c : Nat) {t : List Nat} (h : RQ B w K o p s (c :: t) op dp ms v) : Calls Try.prog 25 #[.pointer (some ⟨p, 0, none⟩), .int .i32 (c : Int)] w fun e w' => e = .returned (.bool true) ∧ ∃ s', RQ B w' K o p s' t op dp ms v ∧ Mo K K (fun x => x = o) w w' := by
  obtain ⟨c0, c1, c2, c3⟩ := h.cells
  have f0 := h.frozen 0
  obtain ⟨g, off, cc, rfl, h1, h2, hr, hS⟩ := h.rune
  obtain ⟨A, hA, hA2⟩ := from1 g off (t.length + 1) cc (by omega) h1 h2
  have HQ := Lib.hid (h.poke 0 (slV (A, t.length, cc - 1)) (hS A (fun hl => hA2 (by omega))) rfl)
  have HM := Lib.hid (h.pokeMo 0 (slV (A, t.length, cc - 1)))
  rw [Nat.add_sub_cancel] at hA
  unfold slV at c0 HQ HM
  simp only at c0 HQ HM
  unfold maxLen at h2
  have hne : ((c : Int) != (c : Int)) = false := by simp
  have hl : (0 : Int) < ((t.length + 1 : Nat) : Int) := by omega
  have hln : 0 < t.length + 1 := by omega
  have hl0 : (((t.length + 1 : Nat) : Int) == 0) = false := by simp; omega
  clear hS hA2 h
  generalize t.length + 1 = n at *
  go_enter Try.func25, Try.ntmps25
  go_wp2
  go_ret
  exact ⟨rfl, _, HQ.out, HM.out⟩
end
end Go.Proofs.Ytdmbgjpidlllcaa.RqNeed

namespace Go.Proofs.Ytdmbgjpidlllcaa.RqLay
open Go Go.RowKit Words AppN Km Mo_ RxSpec RxEq RxMem RxPeek RxIn RxEsc RxCln RxHas RxClean RxNode RqMem RqNeed

/-- A node more. -/
theorem RQ.more {B : Nat} {w w' : World} {K : Nat → Nat} {o p : Nat} {S : Sl} {rs : List Nat} {op dp : Nat} {ms : List NM} {v v' : Value} {m : NM} (h : RQ B w K o p S rs op dp ms v) (hm : Okq B w K o m) (hos : w'.os = w.os) (htp : w'.tape = w.tape) (hou : w'.output = w.output) (hsz : w.heap.size ≤ w'.heap.size)
    (hkeep : ∀ i, i < w.heap.size → i ≠ p → some i ≠ v.ownBlock → w'.heap[i]? = w.heap[i]?) (hbox : w'.heap[p]? = some (.cells (qcells S v' op dp) 45 (0, 0)))
    (hown : w'.ownsRow B 33 5 v' (ms.length + 1) (flatN ms ++ ncells m)) (hat : v'.ownBlock = v.ownBlock ∨ ∀ b, v'.ownBlock = some b → w.heap.size ≤ b) :
    RQ B w' (kmark K w.heap.size o) o p S rs op dp (ms ++ [m]) v' ∧ Mo K (kmark K w.heap.size o) (fun x => x = o) w w' := by
  have hmo : Mo K (kmark K w.heap.size o) (fun x => x = o) w w' := ⟨hos, htp, hou, hsz, fun i hi hk => ⟨hkeep i hi (fun e => hk (by rw [e]; exact h.pk)) (fun e => hk (h.vk i e.symm).1), kmark_old hi⟩⟩
  refine ⟨⟨h.bp, by rw [kmark_old h.lt]; exact h.pk, hbox, h.runes.mo hmo, by rw [flatN_append, flatN_one, List.length_append]; exact hown, fun b hb => ?_, fun x hx => ?_⟩, hmo⟩
  · rcases hat with e | e
    · rw [e] at hb
      have := h.vk b hb
      have hlt := (h.own.lt b hb).2
      exact ⟨by rw [kmark_old hlt]; exact this.1, this.2⟩
    · have := e b hb
      exact ⟨kmark_new this, fun e2 => by have := h.lt; omega⟩
  · rcases List.mem_append.1 hx with hx | hx
    · exact (h.each x hx).mo hmo
    · simp at hx; subst hx; exact hm.mo hmo

set_option maxHeartbeats 6400000 in
set_option maxRecDepth 100000 in
theorem lay_any {B : Nat} {w : World} {K : Nat → Nat} {o p : Nat} {S : Sl} {rs : List Nat} {op dp : Nat} {ms : List NM} {v : Value} {m : NM} (h : RQ B w K o p S rs op dp ms v) (hm : Okq B w K o m) (hl : ms.length < 100000) :
    Calls Try.prog 34 #[.pointer (some ⟨p, 0, none⟩), aggN m] w fun e w' => e = .returned (.int .i64 (ms.length : Int)) ∧ ∃ v' K', RQ B w' K' o p S rs op dp (ms ++ [m]) v' ∧ Mo K K' (fun x => x = o) w w' := by
  have H := Lib.hid h
  have HM := Lib.hid hm
  obtain ⟨A, c, hv⟩ := own_sl h.own
  subst hv
  obtain ⟨c0, c2, c1, c3⟩ := h.cells
  have f2 := h.frozen 1
  have hBp := h.bp
  have hp := h.lt
  obtain ⟨i0, hi, hz0, hz1, hz2⟩ := info_parts info_node
  have HMRG : Hid (∀ (w' : World) (v' : Value), w'.os = w.os → w'.tape = w.tape → w'.output = w.output → w.heap.size ≤ w'.heap.size → (∀ i, i < w.heap.size → i ≠ p → some i ≠ (Value.slice A ms.length c).ownBlock → w'.heap[i]? = w.heap[i]?) → w'.heap[p]? = some (.cells (qcells S v' op dp) 45 (0, 0)) →
    w'.ownsRow B 33 5 v' (ms.length + 1) (flatN ms ++ ncells m) → (v'.ownBlock = (Value.slice A ms.length c).ownBlock ∨ ∀ b, v'.ownBlock = some b → w.heap.size ≤ b) → RQ B w' (kmark K w.heap.size o) o p S rs op dp (ms ++ [m]) v' ∧ Mo K (kmark K w.heap.size o) (fun x => x = o) w w') :=
    Lib.hid fun w' v' h1 h2 h3 h4 h5 h6 h7 h8 => RQ.more H.out HM.out h1 h2 h3 h4 h5 h6 h7 h8
  have HVB : Hid (∀ b, (Value.slice A ms.length c).ownBlock = some b → b < w.heap.size ∧ b ≠ p) := Lib.hid fun b hb => ⟨(h.own.lt b hb).2, (h.vk b hb).2⟩
  have HBX := Lib.hid h.box
  have HOW := Lib.hid h.own
  obtain ⟨⟨kind, kids, lo, hi', set⟩, ⟨kA, kn, kc⟩, ⟨sA, sn, sc⟩⟩ := m
  obtain ⟨W1, hW1'⟩ : ∃ W1, w.alloc (.cells #[.int .i64 (kind : Int), .slice kA kn kc, .int .i64 lo, .int .i64 hi', .slice sA sn sc] 33) = W1 := ⟨_, rfl⟩
  have HN1 : Hid (W1.heap[w.heap.size]? = some (.cells #[.int .i64 (kind : Int), .slice kA kn kc, .int .i64 lo, .int .i64 hi', .slice sA sn sc] 33 (0, 0))) := Lib.hid (by rw [← hW1']; exact heap_alloc_new w _)
  have hs1 : W1.heap.size = w.heap.size + 1 := by rw [← hW1']; simp
  have HO1 : Hid (W1.ownsRow B 33 5 (.slice A ms.length c) ms.length (flatN ms)) := Lib.hid (by rw [← hW1']; exact HOW.out.alloc _)
  have HB1 : Hid (Below w.heap.size w W1) := Lib.hid (by rw [← hW1']; exact (Below.refl _ w).alloc (Nat.le_refl _) _)
  have b0 : W1.cell? ⟨w.heap.size, 0, none⟩ = some (.int .i64 (kind : Int)) := RxMem.cell_of_row (j := 0) HN1.out rfl
  have b1 : W1.cell? ⟨w.heap.size, 1, none⟩ = some (.slice kA kn kc) := RxMem.cell_of_row (j := 1) HN1.out rfl
  have b2 : W1.cell? ⟨w.heap.size, 2, none⟩ = some (.int .i64 lo) := RxMem.cell_of_row (j := 2) HN1.out rfl
  have b3 : W1.cell? ⟨w.heap.size, 3, none⟩ = some (.int .i64 hi') := RxMem.cell_of_row (j := 3) HN1.out rfl
  have b4 : W1.cell? ⟨w.heap.size, 4, none⟩ = some (.slice sA sn sc) := RxMem.cell_of_row (j := 4) HN1.out rfl
  have p2 := cell_up HB1.out (p := ⟨p, 1, none⟩) hp c2
  have fp2 : W1.frozen? ⟨p, 1, none⟩ = false := (frozen_up (HB1.out.block p hp)).trans f2
  have HS1 := Lib.hid hs1
  have HOX : Hid ((W1.alloc (.cells #[.int .i64 (kind : Int), .slice kA kn kc, .int .i64 lo, .int .i64 hi', .slice sA sn sc] 33)).drew.ownsRow B 33 5 (.slice A ms.length c) ms.length (flatN ms)) := Lib.hid (HO1.out.alloc _).drew
  have HM2 : Hid (Rd (W1.alloc (.cells #[.int .i64 (kind : Int), .slice kA kn kc, .int .i64 lo, .int .i64 hi', .slice sA sn sc] 33)).drew (W1.heap.size + 1) (some ⟨W1.heap.size, 0, none⟩) (ncells ⟨⟨kind, kids, lo, hi', set⟩, (kA, kn, kc), (sA, sn, sc)⟩)) := Lib.hid (Rd.made W1 #[.int .i64 (kind : Int), .slice kA kn kc, .int .i64 lo, .int .i64 hi', .slice sA sn sc] 33)
  have HPB : Hid (∀ w3, (W1.alloc (.cells #[.int .i64 (kind : Int), .slice kA kn kc, .int .i64 lo, .int .i64 hi', .slice sA sn sc] 33)).drew.grownBy w3 (Value.slice A ms.length c).ownBlock → (∀ i, i < w.heap.size → some i ≠ (Value.slice A ms.length c).ownBlock → w3.heap[i]? = w.heap[i]?) ∧ w3.heap[w.heap.size]? = W1.heap[w.heap.size]? ∧ w.heap.size ≤ w3.heap.size ∧ w3.os = w.os ∧ w3.tape = w.tape ∧ w3.output = w.output) := Lib.hid fun w3 hg => by
    have e : (W1.alloc (.cells #[.int .i64 (kind : Int), .slice kA kn kc, .int .i64 lo, .int .i64 hi', .slice sA sn sc] 33)).drew.heap.size = w.heap.size + 2 := by
      show (W1.alloc (.cells #[.int .i64 (kind : Int), .slice kA kn kc, .int .i64 lo, .int .i64 hi', .slice sA sn sc] 33)).heap.size = _
      simp [HS1.out]
    refine ⟨fun i h1 h2 => (hg.block i (by omega) h2).trans ((heap_alloc_old W1 _ (by have := HS1.out; omega)).trans (HB1.out.block i h1)), (hg.block _ (by omega) (fun e2 => by have := (HVB.out _ e2.symm).1; omega)).trans (heap_alloc_old W1 _ (by have := HS1.out; omega)), by have := hg.size; omega, ?_, ?_, ?_⟩
    · rw [hg.os]; exact HB1.out.os
    · rw [hg.tape]; exact HB1.out.tape
    · rw [hg.output]; exact HB1.out.output
  have HPX : Hid (∀ w3, (W1.alloc (.cells #[.int .i64 (kind : Int), .slice kA kn kc, .int .i64 lo, .int .i64 hi', .slice sA sn sc] 33)).drew.grownBy w3 (Value.slice A ms.length c).ownBlock → w3.cell? ⟨p, 1, none⟩ = some (.slice A ms.length c) ∧ w3.frozen? ⟨p, 1, none⟩ = false) := Lib.hid fun w3 hg => by
    have e := (HPB.out w3 hg).1 p hp (fun e2 => (HVB.out p e2.symm).2 rfl)
    exact ⟨(World.cell?_of_block (a := ⟨p, 1, none⟩) e).trans c2, (frozen_up e).trans f2⟩
  have HPA : Hid ((W1.alloc (.cells #[.int .i64 (kind : Int), .slice kA kn kc, .int .i64 lo, .int .i64 hi', .slice sA sn sc] 33)).drew.cell? ⟨p, 1, none⟩ = some (.slice A ms.length c) ∧ (W1.alloc (.cells #[.int .i64 (kind : Int), .slice kA kn kc, .int .i64 lo, .int .i64 hi', .slice sA sn sc] 33)).drew.frozen? ⟨p, 1, none⟩ = false ∧ (W1.alloc (.cells #[.int .i64 (kind : Int), .slice kA kn kc, .int .i64 lo, .int .i64 hi', .slice sA sn sc] 33)).drew.heap[w.heap.size]? = W1.heap[w.heap.size]?) := Lib.hid (by
    have e : (W1.alloc (.cells #[.int .i64 (kind : Int), .slice kA kn kc, .int .i64 lo, .int .i64 hi', .slice sA sn sc] 33)).drew.heap[p]? = W1.heap[p]? := heap_alloc_old W1 _ (by have := HS1.out; omega)
    exact ⟨(World.cell?_of_block (a := ⟨p, 1, none⟩) e).trans p2, (frozen_up e).trans fp2, heap_alloc_old W1 _ (by have := HS1.out; omega)⟩)
  have pa2 : (W1.alloc (.cells #[.int .i64 (kind : Int), .slice kA kn kc, .int .i64 lo, .int .i64 hi', .slice sA sn sc] 33)).cell? ⟨p, 1, none⟩ = some (.slice A ms.length c) := HPA.out.1
  clear h hm c0 c1 c2 c3 f2 HOW hs1
  unfold aggN slV
  have HW1 : Hid (w.alloc (.cells #[.int .i64 (kind : Int), .slice kA kn kc, .int .i64 lo, .int .i64 hi', .slice sA sn sc] 33) = W1) := Lib.hid hW1'
  clear hW1'
  go_enter Try.func34, Try.ntmps34
  go_wp2
  rw [HW1.out]
  go_region_law
    ((refine step_append_lies _ (by rfl) _ _ _ (by rfl) B 33 i0 _ 5 72 Try.underlying23 hi hz0 hz1 hz2 rfl (by omega) (.slice A ms.length c) ms.length _ (by rfl) HOX.out ⟨W1.heap.size, 0, none⟩ 1 1 (ncells ⟨⟨kind, kids, lo, hi', set⟩, (kA, kn, kc), (sA, sn, sc)⟩) (by rfl) rfl (Rd.add_ HM2.out) (ncells_ones _) (by omega) (by unfold maxLen; omega) (by omega) (by show B ≤ (World.alloc _ _).heap.size; rw [World.size_alloc]; have := HS1.out; omega) (W1.heap.size + 1) (by simp) ?_; intro g2 cap w3 hown3 hg3 hat hlt3; obtain ⟨x2, x3⟩ := HPX.out _ hg3))
  all_goals
    obtain ⟨y1, y2, y3, y4, y5, y6⟩ := HPB.out _ hg3
    have hpb := y1 p hp (fun e2 => (HVB.out p e2.symm).2 rfl)
    have hb3 : w3.heap[p]? = some (.cells (qcells S (.slice A ms.length c) op dp) 45 (0, 0)) := hpb.trans HBX.out
    have hgp : g2 ≠ p := by
      rcases hat with e | e
      · exact (HVB.out _ e).2
      · rw [e]; have := HS1.out; omega
    have hbox : (w3.setCell ⟨p, 1, none⟩ (.slice (some ⟨g2, 0, none⟩) (ms.length + 1) cap)).heap[p]? = some (.cells (qcells S (.slice (some ⟨g2, 0, none⟩) (ms.length + 1) cap) op dp) 45 (0, 0)) := by
      rw [heap_setCell_same _ _ _ _ _ _ hb3]
      rfl
    have hown4 : (w3.setCell ⟨p, 1, none⟩ (.slice (some ⟨g2, 0, none⟩) (ms.length + 1) cap)).ownsRow B 33 5 (.slice (some ⟨g2, 0, none⟩) (ms.length + 1) cap) (ms.length + 1) (flatN ms ++ ncells ⟨⟨kind, kids, lo, hi', set⟩, (kA, kn, kc), (sA, sn, sc)⟩) :=
      hown3.kept (row := some p) ⟨rfl, rfl, rfl, by simp, fun i _ hne => heap_setCell_other _ _ _ _ (fun e => hne (by rw [e]))⟩ (.inr (by simp [Value.ownBlock]; exact hgp))
    have HF := Lib.hid (HMRG.out (w3.setCell ⟨p, 1, none⟩ (.slice (some ⟨g2, 0, none⟩) (ms.length + 1) cap)) (.slice (some ⟨g2, 0, none⟩) (ms.length + 1) cap) (y4.trans rfl) (y5.trans rfl) (y6.trans rfl) (by simp; exact y3) (fun i h1 h2 h3 => (heap_setCell_other _ _ _ _ h2).trans (y1 i h1 h3)) hbox hown4 (by
      rcases hat with e | e
      · exact .inl e.symm
      · exact .inr fun b hb => by simp [Value.ownBlock] at hb; have := HS1.out; omega))
    have z2 : (w3.setCell ⟨p, 1, none⟩ (.slice (some ⟨g2, 0, none⟩) (ms.length + 1) cap)).cell? ⟨p, 1, none⟩ = some (.slice (some ⟨g2, 0, none⟩) (ms.length + 1) cap) := RxMem.cell_of_row (j := 1) hbox rfl
    clear hown3 hg3 y1 y2 y3 y4 y5 y6 hpb hb3 hbox hown4 HPX HPB
    go_wp2
    go_ret
    exact ⟨by first | rfl | (congr 2; omega), _, _, HF.out⟩
end Go.Proofs.Ytdmbgjpidlllcaa.RqLay

