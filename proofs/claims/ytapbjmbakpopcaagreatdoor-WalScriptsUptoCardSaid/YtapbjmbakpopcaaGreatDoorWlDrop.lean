/- Plain: a disk that isn't armed and holds just the files of a log, one payload each: what appending, rotating and dropping leave. Conditions: none but those that stand at each. -/
import Derived.Test.YtapbjmbakpopcaaGreatDoorWlTots
namespace Go.Proofs.YtapbjmbakpopcaaGreatDoor.WlDrop
open Go DkSpec WlSpec WlName WlHeld WlLog WlLaw WlTot

theorem put_len (f : DFile) (l : List DFile) : (put f l).length = l.length + if (place f.name l).2 then 0 else 1 := by
  obtain ⟨h1, h2⟩ := place_le f.name l
  unfold put
  rw [List.length_append, List.length_cons, List.length_take, List.length_drop]
  cases hp : (place f.name l).2 with
  | false => simp; omega
  | true => have := (h2 hp).1; simp; omega
theorem del_len {name : List UInt8} {l : List DFile} (hp : (place name l).2 = true) : (del (place name l).1 l).length + 1 = l.length := by
  have := ((place_le name l).2 hp).1
  unfold del
  rw [List.length_append, List.length_take, List.length_drop]
  omega
theorem place_filed {name : List UInt8} {l : List DFile} (h : Rises l) : (place name l).2 = (filed name l).isSome := by
  rw [look_place h]
  cases (place name l).2 <;> rfl
/-- The files from first on hold the payloads, one each; there is nothing else. -/
structure Only (d : DSt) (first : Nat) (ps : List (List UInt8)) : Prop where
  has : Has d first (ps.map fun p => [p])
  room : d.full = false
  left : d.left = -1
  free : ∀ j, first + ps.length ≤ j → filed (name j) d.files = none
  count : d.files.length = ps.length
theorem only_fresh : Only fresh 1 [] := ⟨⟨fresh_run.good, rfl, fun i hi => by simp at hi, rfl⟩, rfl, rfl, fun _ _ => rfl, rfl⟩
theorem only_calm {d : DSt} {first : Nat} {ps : List (List UInt8)} (h : Only d first ps) : stepped d = d := by unfold stepped; rw [if_neg (by rw [h.left]; decide)]
theorem only_append {d : DSt} {ps : List (List UInt8)} (h : Only d 1 ps) (hm : 1 + ps.length < most) {p : List UInt8} (hp : p.length ≤ 65536) :
    (appendL p ⟨1, 1 + ps.length, false⟩ d).1 = 0 ∧ (appendL p ⟨1, 1 + ps.length, false⟩ d).2.1 = ⟨1, 1 + ps.length, true⟩ ∧ Only (appendL p ⟨1, 1 + ps.length, false⟩ d).2.2 1 (ps ++ [p]) := by
  have hlen : (ps.map fun p => [p]).length = ps.length := by simp
  have hmore := has_more h.has h.room h.left (fun j hj => h.free j (by rw [hlen] at hj; exact hj)) (by rw [hlen]; exact hm) hp
  rw [hlen] at hmore
  obtain ⟨m1, m2⟩ := hmore
  have hn := name_ok (n := 1 + ps.length) (by omega)
  obtain ⟨h1, h2, h3, h4, h5⟩ := append_look (data := Framed.frm p) h.has.good hn h.has.on h.room
  have e : appendL p ⟨1, 1 + ps.length, false⟩ d = ((append (name (1 + ps.length)) (Framed.frm p) d).1, ⟨1, 1 + ps.length, (append (name (1 + ps.length)) (Framed.frm p) d).1 == 0⟩, (append (name (1 + ps.length)) (Framed.frm p) d).2) := by
    unfold appendL appendL.frm'
    rw [if_neg (by omega)]
    simp
  refine ⟨m1, ?_, ?_⟩
  · rw [e, h1]
    rfl
  · rw [e] at m2 ⊢
    simp only at m2 ⊢
    refine ⟨by simpa using m2, h2, ?_, fun j hj => ?_, ?_⟩
    · rw [h3, only_calm h]
      exact h.left
    · rw [List.length_append] at hj
      simp only [List.length_cons, List.length_nil] at hj
      rw [h5, if_neg (fun e => by have := name_inj e; omega)]
      exact h.free j (by omega)
    · have hf := h.free (1 + ps.length) (Nat.le_refl _)
      have hp2 := place_filed (name := name (1 + ps.length)) h.has.good.1
      rw [hf] at hp2
      have hr : refused (name (1 + ps.length)) (name (1 + ps.length)) d = 0 := by unfold refused; simp [hn, h.has.on]
      unfold append
      rw [if_neg (by rw [hr]; decide), if_neg (by simp [h.room])]
      simp only
      rw [put_len, h.count]
      simp only [hp2, Option.isSome_none, Bool.false_eq_true, if_false, List.length_append, List.length_cons, List.length_nil]
theorem rotate_wrote {first n : Nat} (h : n ≠ most) : rotateL ⟨first, n, true⟩ = (0, ⟨first, n + 1, false⟩) := by
  unfold rotateL
  rw [if_neg h]
  rfl
theorem only_delete {d : DSt} {first : Nat} {p : List UInt8} {ps : List (List UInt8)} (h : Only d first (p :: ps)) (hm : first ≤ most) : (delete (name first) d).1 = 0 ∧ Only (delete (name first) d).2 (first + 1) ps := by
  have hn := name_ok hm
  obtain ⟨f, hf, _⟩ := h.has.files 0 (by simp)
  rw [Nat.add_zero] at hf
  have hp := place_filed (name := name first) h.has.good.1
  rw [hf, Option.isSome_some] at hp
  have hr : refused (name first) (name first) d = 0 := by unfold refused; simp [hn, h.has.on]
  have e : delete (name first) d = (0, { d with files := del (place (name first) d.files).1 d.files }) := by
    unfold delete
    rw [if_neg (by rw [hr]; decide), if_neg (by simp [hp]), only_calm h]
  have hg := good_delete (name := name first) h.has.good
  have hl : ∀ a, filed a (del (place (name first) d.files).1 d.files) = if name first = a then none else filed a d.files := fun a => look_del h.has.good.1 hp
  rw [e] at hg ⊢
  have hc := h.count
  rw [List.length_cons] at hc
  have hd := del_len hp
  refine ⟨rfl, ⟨hg, h.has.on, fun i hi => ?_, ?_⟩, h.room, h.left, fun j hj => ?_, ?_⟩
  · obtain ⟨f2, h1, h2⟩ := h.has.files (i + 1) (by simpa using hi)
    refine ⟨f2, ?_, by simpa using h2⟩
    show filed _ (del (place (name first) d.files).1 d.files) = _
    rw [hl, if_neg (fun e => by have := name_inj e; omega), ← h1]
    congr 2
    omega
  · show filed _ (del (place (name first) d.files).1 d.files) = _
    rw [hl, if_neg (fun e => by have := name_inj e; omega)]
    exact h.free _ (by simp; omega)
  · show filed _ (del (place (name first) d.files).1 d.files) = _
    rw [hl, if_neg (fun e => by have := name_inj e; omega)]
    exact h.free _ (by simp; omega)
  · show (del (place (name first) d.files).1 d.files).length = _
    omega
/-- What dropping leaves. -/
theorem only_drop (below : Int) : ∀ (ps : List (List UInt8)) {d : DSt} {first n : Nat}, Only d first ps → n = first + ps.length → n ≤ most →
    ∃ (t : Nat) (d' : DSt), t ≤ ps.length ∧ ((first + t : Nat) : Int) = max (first : Int) (min (n : Int) below) ∧ dropL ps.length below ⟨first, n, false⟩ d = (0, ⟨first + t, n, false⟩, d') ∧ Only d' (first + t) (ps.drop t)
  | [], d, first, n, h, hn, _ => ⟨0, d, Nat.le_refl _, by simp at hn; omega, rfl, h⟩
  | p :: ps, d, first, n, h, hn, hm => by
    rw [List.length_cons] at hn
    rw [List.length_cons, dropL]
    by_cases hb : (first : Int) < below
    · rw [if_pos ⟨hb, by show first < n; omega⟩]
      obtain ⟨h1, h2⟩ := only_delete h (by omega)
      rw [if_neg (by show ¬ ((delete (name first) d).1 ≠ 0 ∧ _); rw [h1]; simp)]
      obtain ⟨t, d', g1, g2, g3, g4⟩ := only_drop below ps h2 (n := n) (by omega) hm
      refine ⟨t + 1, d', by simpa using g1, by omega, ?_, ?_⟩
      · show dropL ps.length below ⟨first + 1, n, false⟩ (delete (name first) d).2 = _
        rw [g3, show first + 1 + t = first + (t + 1) by omega]
      · rw [show first + (t + 1) = first + 1 + t by omega]
        simpa using g4
    · rw [if_neg (fun hx => hb hx.1)]
      exact ⟨0, d, Nat.zero_le _, by omega, rfl, h⟩
theorem tot_delete (name : List UInt8) (d : DSt) : tot (delete name d).2 ≤ tot d := by
  have hs : tot (stepped d) = tot d := by unfold stepped tot; split <;> rfl
  unfold delete
  split
  · exact Nat.le_refl _
  · split
    · exact Nat.le_of_eq hs
    · show ((del (place name d.files).1 d.files).map fun f => f.data.length).sum ≤ (d.files.map fun f => f.data.length).sum
      have h1 := sum_split d.files (place name d.files).1
      have h2 := sum_split (d.files.drop (place name d.files).1) 1
      unfold del
      rw [List.map_append, List.sum_append]
      rw [List.drop_drop] at h2
      omega
theorem tot_dropL : ∀ (k : Nat) (below : Int) (l : LSt) (d : DSt), tot (dropL k below l d).2.2 ≤ tot d
  | 0, _, _, _ => Nat.le_refl _
  | k + 1, below, l, d => by
    rw [dropL]
    split
    · split
      · exact tot_delete _ _
      · exact Nat.le_trans (tot_dropL k below _ _) (tot_delete _ _)
    · exact Nat.le_refl _
/-- What a log finds that is opened there. -/
theorem only_open {d : DSt} {first : Nat} {ps : List (List UInt8)} (h : Only d first ps) (h1 : 1 ≤ first) (hm : first + ps.length ≤ most) : openL d (first : Int) = (0, ps, some ⟨first, first + ps.length, false⟩) := by
  have := open_has h.has h1 (by rw [List.length_map]; exact hm)
  rw [List.length_map] at this
  rw [this]
  congr 2
  clear this hm h
  induction ps with
  | nil => rfl
  | cons p ps ih => simpa using ih
/-- Opened behind all that is there. -/
theorem only_past {d : DSt} {first k : Nat} {ps : List (List UInt8)} (h : Only d first ps) (hk : first + ps.length ≤ k) (h1 : 1 ≤ k) (hm : k ≤ most) : openL d (k : Int) = (0, [], some ⟨k, k, false⟩) := by
  have hh : Has d k [] := ⟨h.has.good, h.has.on, fun i hi => by simp at hi, by simpa using h.free k hk⟩
  have := open_has hh h1 (by simpa using hm)
  simpa using this
end Go.Proofs.YtapbjmbakpopcaaGreatDoor.WlDrop
