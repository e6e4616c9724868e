/- Plain: a log over a disk: what its files hold, opening, appending, syncing, rotating; what is found behind a crash. Of no program. Conditions: none but those that stand at each. -/
import Derived.Test.YtapbjmbakpopcaaGreatDoorReads
import Derived.Test.YtapbjmbakpopcaaGreatDoorWlNames
namespace Go.Proofs.YtapbjmbakpopcaaGreatDoor.WlLog
open Go DkSpec WlSpec WlName WlHeld

/-- A log: the first file that may be there, its number, whether it has written there. -/
structure LSt where
  first : Nat
  n : Nat
  wrote : Bool
/-- What the files from a number on hold: the error, all payloads, the number at which it ends; so many files at most. -/
def scan (d : DSt) : Nat → Nat → Nat × List (List UInt8) × Nat
  | 0, n => (3, [], n)
  | k + 1, n =>
    if (DkSpec.read (name n) d).1 = 0 then ((scan d k (n + 1)).1, held (DkSpec.read (name n) d).2 ++ (scan d k (n + 1)).2.1, (scan d k (n + 1)).2.2)
    else if (DkSpec.read (name n) d).1 = 21 then (0, [], n) else ((DkSpec.read (name n) d).1, [], n)
/-- What Open answers: an error, or a log and what is held. -/
def openL (d : DSt) (first : Int) : Nat × List (List UInt8) × Option LSt :=
  if first < 1 ∨ (most : Int) < first then (1, [], none)
  else if (scan d (most + 1 - first.toNat) first.toNat).1 ≠ 0 then ((scan d (most + 1 - first.toNat) first.toNat).1, [], none)
  else (0, (scan d (most + 1 - first.toNat) first.toNat).2.1, some ⟨first.toNat, (scan d (most + 1 - first.toNat) first.toNat).2.2, false⟩)
def appendL (p : List UInt8) (l : LSt) (d : DSt) : Nat × LSt × DSt :=
  if 65536 < p.length then (4, l, d) else ((append (name l.n) (frm' p) d).1, { l with wrote := l.wrote || (append (name l.n) (frm' p) d).1 == 0 }, (append (name l.n) (frm' p) d).2)
where frm' (p : List UInt8) : List UInt8 := Framed.frm p
def syncL (l : LSt) (d : DSt) : Nat × DSt := if l.wrote = false then (0, d) else sync (name l.n) d
def rotateL (l : LSt) : Nat × LSt := if l.n = most then (3, l) else (0, if l.wrote then { l with n := l.n + 1, wrote := false } else l)

/-! ### A disk of so many files -/
/-- The files with the numbers from first on hold the groups gs, each whole as frames, all synced; the next one isn't there. -/
structure Has (d : DSt) (first : Nat) (gs : List (List (List UInt8))) : Prop where
  good : DkSpec.Good d
  on : d.off = false
  files : ∀ i (h : i < gs.length), ∃ f, filed (name (first + i)) d.files = some f ∧ held f.data = gs[i]
  free : filed (name (first + gs.length)) d.files = none
theorem scan_has : ∀ (gs : List (List (List UInt8))) {d : DSt} {first k : Nat}, Has d first gs → first + gs.length ≤ most → gs.length < k → scan d k first = (0, gs.flatten, first + gs.length)
  | [], d, first, k + 1, h, hm, _ => by
    have hr := read_look h.good (name_ok (n := first) (by simpa using hm)) h.on
    have hf := h.free
    rw [List.length_nil, Nat.add_zero] at hf
    rw [hf] at hr
    simp only at hr
    rw [scan, hr]
    simp
  | g :: gs, d, first, k + 1, h, hm, hk => by
    rw [List.length_cons] at hm hk
    obtain ⟨f, h1, h2⟩ := h.files 0 (by simp)
    have hr := read_look h.good (name_ok (n := first) (by omega)) h.on
    rw [Nat.add_zero] at h1
    rw [h1] at hr
    simp only at hr
    have h' : Has d (first + 1) gs := ⟨h.good, h.on, fun i hi => by
      have := h.files (i + 1) (by simpa using hi)
      rw [show first + 1 + i = first + (i + 1) by omega]
      simpa using this, by
      have := h.free
      rw [List.length_cons] at this
      rwa [show first + 1 + gs.length = first + (gs.length + 1) by omega]⟩
    have ih := scan_has gs h' (by omega) (k := k) (by omega)
    rw [scan, hr]
    simp only [if_true]
    rw [ih, h2]
    simp only [List.flatten_cons, List.length_cons, List.getElem_cons_zero]
    rw [show first + 1 + gs.length = first + (gs.length + 1) by omega]
theorem open_has {gs : List (List (List UInt8))} {d : DSt} {first : Nat} (h : Has d first gs) (h1 : 1 ≤ first) (hm : first + gs.length ≤ most) : openL d (first : Int) = (0, gs.flatten, some ⟨first, first + gs.length, false⟩) := by
  unfold openL
  rw [if_neg (by omega)]
  have hs := scan_has gs h hm (k := most + 1 - first) (by omega)
  rw [show ((first : Nat) : Int).toNat = first by simp, hs]
  simp

/-! ### A log at work, and a crash -/
/-- What holds while payloads are appended, synced and rotated: the groups of the files ahead, all synced; the group of the last file, of which c are synced. -/
structure Run (d : DSt) (l : LSt) (gs : List (List (List UInt8))) (C : List (List UInt8)) (c : Nat) : Prop where
  good : DkSpec.Good d
  room : d.full = false
  first : l.first = 1
  num : l.n = 1 + gs.length
  few : l.n ≤ most
  short : ∀ g ∈ gs, ∀ p ∈ g, p.length ≤ 65536
  shortC : ∀ p ∈ C, p.length ≤ 65536
  files : ∀ i (h : i < gs.length), filed (name (1 + i)) d.files = some ⟨name (1 + i), frms gs[i], (frms gs[i]).length⟩
  last : if l.wrote then ∃ s, filed (name l.n) d.files = some ⟨name l.n, frms C, s⟩ ∧ (frms (C.take c)).length ≤ s else C = [] ∧ filed (name l.n) d.files = none
  free : ∀ j, l.n < j → filed (name j) d.files = none
  some_ : c ≤ C.length
theorem run_start (k : Int) : Run (arm k fresh) ⟨1, 1, false⟩ [] [] 0 := by
  have hf : (arm k fresh).files = [] := by unfold arm fresh; split <;> rfl
  have hl : (arm k fresh).full = false := by unfold arm fresh; split <;> rfl
  refine ⟨⟨by rw [hf]; exact List.Pairwise.nil, by rw [hf]; intro f h; cases h⟩, hl, rfl, rfl, by unfold most; simp, fun g h => (by cases h), fun p h => (by cases h), fun i h => (by simp at h), ?_, fun j _ => (by rw [hf]; rfl), Nat.le_refl _⟩
  rw [hf]
  exact ⟨rfl, rfl⟩
variable {d : DSt} {l : LSt} {gs : List (List (List UInt8))} {C : List (List UInt8)} {c : Nat}
theorem Run.have (h : Run d l gs C c) : 1 ≤ l.n := by have := h.num; omega
theorem run_append (h : Run d l gs C c) (p : List UInt8) :
    ((appendL p l d).1 = 0 ∧ d.off = false ∧ p.length ≤ 65536 ∧ Run (appendL p l d).2.2 (appendL p l d).2.1 gs (C ++ [p]) c) ∨
    ((appendL p l d).1 = 4 ∧ (appendL p l d).2 = (l, d)) ∨ ((appendL p l d).1 = 23 ∧ d.off = true ∧ (appendL p l d).2 = (l, d)) := by
  have hn := name_ok h.few
  unfold appendL appendL.frm'
  by_cases hp : 65536 < p.length
  · rw [if_pos hp]
    exact .inr (.inl ⟨rfl, rfl⟩)
  · rw [if_neg hp]
    cases ho : d.off with
    | true =>
      rw [append_off hn ho]
      refine .inr (.inr ⟨rfl, rfl, ?_⟩)
      simp
    | false =>
      obtain ⟨h1, h2, _, _, h5⟩ := append_look (data := Framed.frm p) h.good hn ho h.room
      have hg := good_append (name := name l.n) (data := Framed.frm p) h.good
      generalize append (name l.n) (Framed.frm p) d = r at *
      refine .inl ⟨h1, rfl, by omega, ?_⟩
      rw [h1]
      simp only [beq_self_eq_true, Bool.or_true]
      refine ⟨hg, h2, h.first, h.num, h.few, h.short, fun q hq => ?_, fun i hi => ?_, ?_, fun j hj => ?_, by simp; have := h.some_; omega⟩
      · rcases List.mem_append.1 hq with hq | hq
        · exact h.shortC q hq
        · rw [List.mem_singleton.1 hq]; omega
      · rw [h5, if_neg (fun e => by have := name_inj e; have := h.num; omega)]
        exact h.files i hi
      · simp only [if_true]
        rw [h5, if_pos rfl]
        have hl := h.last
        cases hw : l.wrote with
        | true =>
          rw [hw] at hl
          obtain ⟨s, h6, h7⟩ := hl
          rw [h6]
          refine ⟨s, ?_, ?_⟩
          · rw [frms_append, frms_cons, frms_nil, List.append_nil]
          · rwa [List.take_append_of_le_length h.some_]
        | false =>
          rw [hw] at hl
          obtain ⟨h6, h7⟩ := hl
          rw [h7]
          subst h6
          refine ⟨0, by simp [frms_cons, frms_nil], ?_⟩
          have := h.some_
          simp at this
          subst this
          simp [frms_nil]
      · have hj' : l.n < j := hj
        rw [h5, if_neg (fun e => by have := name_inj e; omega)]
        exact h.free j hj'
theorem run_sync (h : Run d l gs C c) : ((syncL l d).1 = 0 ∧ Run (syncL l d).2 l gs C C.length) ∨ ((syncL l d).1 = 23 ∧ d.off = true ∧ (syncL l d).2 = d) := by
  have hn := name_ok h.few
  unfold syncL
  cases hw : l.wrote with
  | false =>
    rw [if_pos rfl]
    have hl := h.last
    rw [hw] at hl
    refine .inl ⟨rfl, { h with last := ?_, some_ := Nat.le_refl _ }⟩
    rw [hw]
    exact hl
  | true =>
    rw [if_neg (by decide)]
    have hl := h.last
    rw [hw] at hl
    obtain ⟨s, h6, h7⟩ := hl
    cases ho : d.off with
    | true =>
      rw [sync_off hn ho]
      exact .inr ⟨rfl, rfl, rfl⟩
    | false =>
      obtain ⟨h1, h2, _, _, h5⟩ := sync_look h.good hn ho h6
      have hg := good_sync (name := name l.n) h.good
      generalize sync (name l.n) d = r at *
      refine .inl ⟨h1, hg, h2.trans h.room, h.first, h.num, h.few, h.short, h.shortC, fun i hi => ?_, ?_, fun j hj => ?_, Nat.le_refl _⟩
      · rw [h5, if_neg (fun e => by have := name_inj e; have := h.num; omega)]
        exact h.files i hi
      · rw [hw]
        simp only [if_true]
        rw [h5, if_pos rfl]
        exact ⟨_, rfl, by rw [List.take_length]; exact Nat.le_refl _⟩
      · rw [h5, if_neg (fun e => by have := name_inj e; omega)]
        exact h.free j hj
/-- Rotated where all is synced. -/
theorem run_rotate (h : Run d l gs C C.length) (hs : l.wrote = true → ∀ f, filed (name l.n) d.files = some f → f.synced = f.data.length) (hm : l.n < most) :
    (rotateL l).1 = 0 ∧ ((l.wrote = true ∧ Run d (rotateL l).2 (gs ++ [C]) [] 0) ∨ (l.wrote = false ∧ (rotateL l).2 = l)) := by
  unfold rotateL
  rw [if_neg (by omega)]
  refine ⟨rfl, ?_⟩
  cases hw : l.wrote with
  | false => exact .inr ⟨rfl, by simp⟩
  | true =>
    left
    refine ⟨rfl, ?_⟩
    simp only [if_true]
    have hl := h.last
    rw [hw] at hl
    obtain ⟨s, h6, h7⟩ := hl
    have hs' := hs hw _ h6
    simp only at hs'
    have hnn := h.num
    refine ⟨h.good, h.room, h.first, by simp; omega, by simp only; omega, fun g hg => ?_, fun p hp => (by cases hp), fun i hi => ?_, ?_, fun j hj => h.free j (by simp only at hj; omega), Nat.le_refl _⟩
    · rcases List.mem_append.1 hg with hg | hg
      · exact h.short g hg
      · rw [List.mem_singleton.1 hg]; exact h.shortC
    · rw [List.length_append] at hi
      simp only [List.length_cons, List.length_nil] at hi
      by_cases hlt : i < gs.length
      · rw [List.getElem_append_left hlt]
        exact h.files i hlt
      · have hi2 : i = gs.length := by omega
        subst hi2
        rw [List.getElem_append_right (Nat.le_refl _)]
        simp only [Nat.sub_self, List.getElem_cons_zero]
        rw [← hnn, h6, hs']
    · exact ⟨rfl, h.free _ (by show l.n < l.n + 1; omega)⟩

/-- Behind a crash: the groups of the files ahead, and a beginning of the last one's, at least what was synced. -/
theorem run_crash (h : Run d l gs C c) (ks : List Int) (hm : l.n < most) : ∃ j, c ≤ j ∧ j ≤ C.length ∧
    ∃ hs, hs.flatten = gs.flatten ++ C.take j ∧ (1 + hs.length = l.n ∨ 1 + hs.length = l.n + 1) ∧ Has (restart ks d) 1 hs ∧ (restart ks d).full = false ∧ (restart ks d).left = -1 ∧
      (∀ i (h : i < hs.length), ∃ f, filed (name (1 + i)) (restart ks d).files = some f ∧ f.synced = f.data.length) ∧ (∀ j, 1 + hs.length ≤ j → filed (name j) (restart ks d).files = none) := by
  have hg := good_restart (ks := ks) h.good
  have hnn := h.num
  have hfile : ∀ i (hi : i < gs.length), filed (name (1 + i)) (restart ks d).files = some ⟨name (1 + i), frms gs[i], (frms gs[i]).length⟩ := fun i hi => by
    obtain ⟨m, h1, h2, h3⟩ := (restart_look (ks := ks) h.good (name (1 + i))).2 _ (h.files i hi)
    simp only at h1 h2 h3
    have : m = (frms gs[i]).length := by omega
    subst this
    rw [h3, List.take_length]
  have hfree : ∀ j, l.n < j → filed (name j) (restart ks d).files = none := fun j hj => (restart_look h.good (name j)).1 (h.free j hj)
  have hl := h.last
  cases hw : l.wrote with
  | false =>
    rw [hw] at hl
    obtain ⟨h6, h7⟩ := hl
    subst h6
    have hc := h.some_
    refine ⟨0, by simpa using hc, Nat.le_refl _, gs, by simp, .inl (by omega), ⟨hg, rfl, fun i hi => ⟨_, hfile i hi, held_all (h.short _ (List.getElem_mem hi))⟩, ?_⟩, rfl, rfl, fun i hi => ⟨_, hfile i hi, rfl⟩, fun j hj => ?_⟩
    · rw [← hnn]
      exact (restart_look h.good _).1 h7
    · by_cases e : j = l.n
      · rw [e]; exact (restart_look h.good _).1 h7
      · exact hfree j (by omega)
  | true =>
    rw [hw] at hl
    obtain ⟨s, h6, h7⟩ := hl
    obtain ⟨m, h1, h2, h3⟩ := (restart_look (ks := ks) h.good (name l.n)).2 _ h6
    simp only at h1 h2 h3
    have hlast : ∀ i (hi : i < (gs ++ [C.take (whole m C)]).length), ∃ f, filed (name (1 + i)) (restart ks d).files = some f ∧ held f.data = (gs ++ [C.take (whole m C)])[i] ∧ f.synced = f.data.length := fun i hi => by
      rw [List.length_append] at hi
      simp only [List.length_cons, List.length_nil] at hi
      by_cases hlt : i < gs.length
      · rw [List.getElem_append_left hlt]
        exact ⟨_, hfile i hlt, held_all (h.short _ (List.getElem_mem hlt)), rfl⟩
      · have hi2 : i = gs.length := by omega
        subst hi2
        rw [List.getElem_append_right (Nat.le_refl _)]
        simp only [Nat.sub_self, List.getElem_cons_zero]
        rw [← hnn]
        refine ⟨_, h3, held_cut m h.shortC, ?_⟩
        simp only [List.length_take]
        omega
    refine ⟨whole m C, le_whole m C c h.some_ (by omega), whole_le m C, gs ++ [C.take (whole m C)], by simp, .inr (by simp; omega), ⟨hg, rfl, fun i hi => ?_, ?_⟩, rfl, rfl, fun i hi => ?_, fun j hj => ?_⟩
    · obtain ⟨f, e1, e2, _⟩ := hlast i hi
      exact ⟨f, e1, e2⟩
    · refine hfree _ ?_
      simp
      omega
    · obtain ⟨f, e1, _, e3⟩ := hlast i hi
      exact ⟨f, e1, e3⟩
    · refine hfree j ?_
      simp at hj
      omega
/-- Restarted once more nothing changes. -/
theorem has_again {hs : List (List (List UInt8))} (h : Has d 1 hs) (hsy : ∀ i (h : i < hs.length), ∃ f, filed (name (1 + i)) d.files = some f ∧ f.synced = f.data.length) (ks : List Int) : Has (restart ks d) 1 hs := by
  refine ⟨good_restart h.good, rfl, fun i hi => ?_, (restart_look h.good _).1 h.free⟩
  obtain ⟨f, h1, h2⟩ := h.files i hi
  obtain ⟨f', h1', h3⟩ := hsy i hi
  rw [h1] at h1'
  cases h1'
  obtain ⟨m, h4, h5, h6⟩ := (restart_look (ks := ks) h.good (name (1 + i))).2 f h1
  have hm : m = f.data.length := by omega
  subst hm
  refine ⟨_, h6, ?_⟩
  rw [List.take_length]
  exact h2
/-- One more payload, behind all that is there. -/
theorem has_more {hs : List (List (List UInt8))} (h : Has d 1 hs) (hf : d.full = false) (hleft : d.left = -1) (hfree : ∀ j, 1 + hs.length ≤ j → filed (name j) d.files = none) (hm : 1 + hs.length < most) {p : List UInt8} (hp : p.length ≤ 65536) :
    (appendL p ⟨1, 1 + hs.length, false⟩ d).1 = 0 ∧ Has (appendL p ⟨1, 1 + hs.length, false⟩ d).2.2 1 (hs ++ [[p]]) := by
  have hn := name_ok (n := 1 + hs.length) (by omega)
  obtain ⟨h1, h2, h3, h4, h5⟩ := append_look (data := Framed.frm p) h.good hn h.on hf
  have hg := good_append (name := name (1 + hs.length)) (data := Framed.frm p) h.good
  have ho : (stepped d).off = false := by unfold stepped; rw [if_neg (by omega)]; exact h.on
  unfold appendL appendL.frm'
  rw [if_neg (by omega)]
  refine ⟨h1, hg, h4.trans ho, fun i hi => ?_, ?_⟩
  · rw [List.length_append] at hi
    simp only [List.length_cons, List.length_nil] at hi
    simp only [h5]
    by_cases hlt : i < hs.length
    · rw [if_neg (fun e => by have := name_inj e; omega), List.getElem_append_left hlt]
      exact h.files i hlt
    · have hi2 : i = hs.length := by omega
      subst hi2
      rw [if_pos rfl, h.free, List.getElem_append_right (Nat.le_refl _)]
      refine ⟨_, rfl, ?_⟩
      simp only [Nat.sub_self, List.getElem_cons_zero]
      have := held_all (ps := [p]) (by simpa using hp)
      rwa [frms_cons, frms_nil, List.append_nil] at this
  · simp only [h5]
    rw [if_neg (fun e => by have := name_inj e; simp at this)]
    refine hfree _ ?_
    simp
end Go.Proofs.YtapbjmbakpopcaaGreatDoor.WlLog
