/- Plain: how many files and bytes a disk has, behind each call; a log over a disk that isn't armed. Of no program. No conditions. · Plain: what a file's bytes hold, read place by place; how many payloads and bytes a log's files have together; a number's digits. Of no program. No conditions. -/
import Derived.Test.YtapbjmbakpopcaaGreatDoorWlLaw
import Derived.Lib.ItoaNum
namespace Go.Proofs.YtapbjmbakpopcaaGreatDoor.WlTot
open Go DkSpec WlSpec WlName WlHeld WlLog WlLaw

theorem sum_split (l : List DFile) (i : Nat) : (l.map fun f => f.data.length).sum = ((l.take i).map fun f => f.data.length).sum + ((l.drop i).map fun f => f.data.length).sum := by
  conv => lhs; rw [← List.take_append_drop i l]
  rw [List.map_append, List.sum_append]
theorem tot_put (name data : List UInt8) (s : Nat) (l : List DFile) :
    ((put ⟨name, (old name l).data ++ data, s⟩ l).map fun f => f.data.length).sum = (l.map fun f => f.data.length).sum + data.length ∧ (put ⟨name, (old name l).data ++ data, s⟩ l).length ≤ l.length + 1 := by
  obtain ⟨h1, h2⟩ := place_le name l
  have hs := sum_split l (place name l).1
  unfold put
  simp only
  rw [List.map_append, List.sum_append, List.map_cons, List.sum_cons]
  cases hp : (place name l).2 with
  | false =>
    have ho : (old name l).data = [] := by unfold old; rw [hp]; rfl
    rw [ho]
    simp only [Bool.false_eq_true, if_false, Nat.add_zero, List.nil_append, List.length_append, List.length_cons, List.length_take, List.length_drop]
    omega
  | true =>
    obtain ⟨h3, h4⟩ := h2 hp
    have ho : (old name l).data = (l[(place name l).1]).data := by unfold old; rw [hp]; simp [List.getD, List.getElem?_eq_getElem h3]
    rw [List.drop_eq_getElem_cons h3, List.map_cons, List.sum_cons] at hs
    rw [ho]
    simp only [if_true, List.length_append, List.length_cons, List.length_take, List.length_drop]
    omega
theorem fit_stepped (d : DSt) : tot (stepped d) = tot d ∧ (stepped d).files.length = d.files.length := by unfold tot; rw [stepped_files]; exact ⟨rfl, rfl⟩
theorem tot_append (name data : List UInt8) (d : DSt) : tot (append name data d).2 ≤ tot d + data.length ∧ (append name data d).2.files.length ≤ d.files.length + 1 := by
  unfold append
  split
  · exact ⟨Nat.le_add_right _ _, Nat.le_add_right _ _⟩
  · split
    · have := fit_stepped d
      simp only
      omega
    · have h := tot_put name data (old name d.files).synced d.files
      exact ⟨Nat.le_of_eq h.1, h.2⟩
theorem tot_sync (name : List UInt8) (d : DSt) : tot (sync name d).2 = tot d ∧ (sync name d).2.files.length = d.files.length := by
  unfold sync
  split
  · exact ⟨rfl, rfl⟩
  · split
    · exact fit_stepped d
    · unfold tot
      simp only [List.length_modify, and_true]
      congr 1
      apply List.ext_getElem?
      intro i
      rw [List.getElem?_map, List.getElem?_map, List.getElem?_modify]
      cases d.files[i]? with
      | none => rfl
      | some f => by_cases e : (place name d.files).1 = i <;> simp [e]
theorem tot_kept : ∀ (l : List DFile) (ks : List Int), ((kept l ks).map fun f => f.data.length).sum ≤ (l.map fun f => f.data.length).sum ∧ (kept l ks).length = l.length
  | [], _ => ⟨Nat.le_refl _, rfl⟩
  | f :: r, ks => by
    obtain ⟨h1, h2⟩ := tot_kept r ks.tail
    rw [kept]
    simp only [List.map_cons, List.sum_cons, List.length_cons, List.length_take]
    omega
theorem tot_restart (ks : List Int) (d : DSt) : tot (restart ks d) ≤ tot d ∧ (restart ks d).files.length = d.files.length := tot_kept _ _
theorem tot_arm (n : Int) (d : DSt) : tot (arm n d) = tot d ∧ (arm n d).files.length = d.files.length := by unfold arm tot; split <;> exact ⟨rfl, rfl⟩
theorem frm_small (p : List UInt8) (h : p.length ≤ 65536) : (Framed.frm p).length ≤ p.length + 14 := by
  rw [Framed.frm_length]
  have := Lib.uvarint_length64 (x := p.length) (by omega)
  omega
theorem tot_appendL (p : List UInt8) (l : LSt) (d : DSt) : tot (appendL p l d).2.2 ≤ tot d + p.length + 14 ∧ (appendL p l d).2.2.files.length ≤ d.files.length + 1 := by
  unfold appendL appendL.frm'
  split
  · exact ⟨by simp only; omega, by simp only; omega⟩
  · have h1 := tot_append (name l.n) (Framed.frm p) d
    have h2 := frm_small p (by omega)
    simp only
    omega
theorem tot_syncL (l : LSt) (d : DSt) : tot (syncL l d).2 = tot d ∧ (syncL l d).2.files.length = d.files.length := by
  unfold syncL
  split
  · exact ⟨rfl, rfl⟩
  · exact tot_sync _ _

theorem append_n (p : List UInt8) (l : LSt) (d : DSt) : (appendL p l d).2.1.n = l.n := by unfold appendL; split <;> rfl

/-! ### Not armed -/
def Calm (d : DSt) : Prop := d.off = false ∧ d.left = -1
theorem calm_stepped {d : DSt} (h : Calm d) : stepped d = d := by unfold stepped; rw [if_neg (by rw [h.2]; decide)]
variable {d : DSt} {l : LSt} {gs : List (List (List UInt8))} {C : List (List UInt8)} {c : Nat}
theorem calm_append (h : Run d l gs C c) (hc : Calm d) {p : List UInt8} (hp : p.length ≤ 65536) : (appendL p l d).1 = 0 ∧ Calm (appendL p l d).2.2 ∧ Run (appendL p l d).2.2 (appendL p l d).2.1 gs (C ++ [p]) c ∧ (appendL p l d).2.1 = ⟨l.first, l.n, true⟩ := by
  obtain ⟨h1, _, h3, h4, _⟩ := append_look (data := Framed.frm p) h.good (name_ok h.few) hc.1 h.room
  have e : appendL p l d = ((append (name l.n) (Framed.frm p) d).1, { l with wrote := l.wrote || (append (name l.n) (Framed.frm p) d).1 == 0 }, (append (name l.n) (Framed.frm p) d).2) := by
    unfold appendL appendL.frm'
    rw [if_neg (by omega)]
  have h0 : (appendL p l d).1 = 0 := by rw [e]; exact h1
  rcases run_append h p with h5 | h5 | h5
  · refine ⟨h0, ?_, h5.2.2.2, ?_⟩
    · rw [e]
      rw [calm_stepped hc] at h3 h4
      exact ⟨h4.trans hc.1, h3.trans hc.2⟩
    · rw [e]
      simp only [h1, beq_self_eq_true, Bool.or_true]
  · exact absurd (h0.symm.trans h5.1) (by decide)
  · exact absurd (h0.symm.trans h5.1) (by decide)
theorem calm_sync (h : Run d l gs C c) (hc : Calm d) : (syncL l d).1 = 0 ∧ Calm (syncL l d).2 ∧ Run (syncL l d).2 l gs C C.length := by
  rcases run_sync h with h5 | h5
  · refine ⟨h5.1, ?_, h5.2⟩
    unfold syncL
    cases hw : l.wrote with
    | false => rw [if_pos rfl]; exact hc
    | true =>
      rw [if_neg (by decide)]
      have hl := h.last
      rw [hw] at hl
      obtain ⟨s, h6, _⟩ := hl
      obtain ⟨_, _, h3, h4, _⟩ := sync_look h.good (name_ok h.few) hc.1 h6
      rw [calm_stepped hc] at h3 h4
      exact ⟨h4.trans hc.1, h3.trans hc.2⟩
  · rw [hc.1] at h5
    exact absurd h5.2.1 (by decide)
/-- Behind a sync that went all of the last file is synced. -/
theorem sync_full (h : Run d l gs C c) (h0 : (syncL l d).1 = 0) (hw : l.wrote = true) : ∀ f, filed (name l.n) (syncL l d).2.files = some f → f.synced = f.data.length := by
  have hl := h.last
  rw [hw] at hl
  obtain ⟨s, h6, _⟩ := hl
  have e : syncL l d = sync (name l.n) d := by unfold syncL; rw [hw, if_neg (by decide)]
  rw [e] at h0 ⊢
  cases ho : d.off with
  | true => rw [sync_off (name_ok h.few) ho] at h0; cases h0
  | false =>
    obtain ⟨_, _, _, _, h5⟩ := sync_look h.good (name_ok h.few) ho h6
    intro f hf
    rw [h5, if_pos rfl] at hf
    cases hf
    rfl
/-- Rotated behind a sync that went. -/
theorem rotate_run (h : Run d l gs C C.length) (hs : l.wrote = true → ∀ f, filed (name l.n) d.files = some f → f.synced = f.data.length) (hm : l.n < most) :
    (rotateL l).1 = 0 ∧ (rotateL l).2.n ≤ l.n + 1 ∧ ∃ gs' C' c', Run d (rotateL l).2 gs' C' c' ∧ gs'.flatten ++ C' = gs.flatten ++ C ∧ gs.flatten.length + C.length ≤ gs'.flatten.length + c' := by
  have hn : (rotateL l).2.n ≤ l.n + 1 := by
    unfold rotateL
    split
    · exact Nat.le_succ _
    · simp only
      split
      · exact Nat.le_refl _
      · exact Nat.le_succ _
  obtain ⟨h1, h2 | h2⟩ := run_rotate h hs hm
  · exact ⟨h1, hn, gs ++ [C], [], 0, h2.2, by simp, by simp⟩
  · exact ⟨h1, hn, gs, C, C.length, by rw [h2.2]; exact h, rfl, Nat.le_refl _⟩
/-- What a log that is up holds. -/
theorem run_has (h : Run d l gs C c) (hc : d.off = false) : ∃ hs, hs.flatten = gs.flatten ++ C ∧ Has d 1 hs ∧ 1 + hs.length = if l.wrote then l.n + 1 else l.n := by
  have hnn := h.num
  have hl := h.last
  cases hw : l.wrote with
  | false =>
    rw [hw] at hl
    obtain ⟨h6, h7⟩ := hl
    refine ⟨gs, by simp [h6], ⟨h.good, hc, fun i hi => ⟨_, h.files i hi, held_all (h.short _ (List.getElem_mem hi))⟩, by rw [← hnn]; exact h7⟩, by simp; omega⟩
  | true =>
    rw [hw] at hl
    obtain ⟨s, h6, h7⟩ := hl
    refine ⟨gs ++ [C], by simp, ⟨h.good, hc, fun i hi => ?_, h.free _ (by simp; omega)⟩, by simp; omega⟩
    rw [List.length_append] at hi
    simp only [List.length_cons, List.length_nil] at hi
    by_cases hlt : i < gs.length
    · rw [List.getElem_append_left hlt]
      exact ⟨_, h.files i hlt, held_all (h.short _ (List.getElem_mem hlt))⟩
    · have hi2 : i = gs.length := by omega
      subst hi2
      rw [List.getElem_append_right (Nat.le_refl _)]
      simp only [Nat.sub_self, List.getElem_cons_zero]
      rw [← hnn]
      exact ⟨_, h6, held_all h.shortC⟩
theorem calm_fresh : Calm fresh := ⟨rfl, rfl⟩
theorem fresh_run : Run fresh ⟨1, 1, false⟩ [] [] 0 := by
  have e : arm (-1) fresh = fresh := by unfold arm fresh; simp
  have h := run_start (-1)
  rwa [e] at h
theorem fresh_open : openL fresh 1 = (0, [], some ⟨1, 1, false⟩) := by
  have h : Has fresh 1 [] := ⟨fresh_run.good, rfl, fun i hi => by simp at hi, rfl⟩
  have := open_has h (Nat.le_refl _) (by unfold most; simp)
  simpa using this
theorem fresh_fit : Fit fresh := ⟨by simp [fresh], by simp [tot, fresh]⟩
end Go.Proofs.YtapbjmbakpopcaaGreatDoor.WlTot

namespace Go.Proofs.YtapbjmbakpopcaaGreatDoor.WpPlain
open Go DkSpec WlSpec WlName WlHeld WlLog WlLaw Plain Reading

/-! ### A place among the bytes -/
section
variable {l : List UInt8} {t : Nat}
theorem get_shift (h : t ≤ l.length) : getE l (t : Int) = getE (l.drop t) 0 ∧ getN l (t : Int) = getN (l.drop t) 0 ∧ (getE l (t : Int) = 0 → getTo l (t : Int) = (t : Int) + getTo (l.drop t) 0) := by
  have h1 : ¬ ((t : Int) < 0 ∨ (l.length : Int) < (t : Int)) := by omega
  have h2 : ¬ ((0 : Int) < 0 ∨ ((l.drop t).length : Int) < 0) := by omega
  have e : ((t : Int)).toNat = t := by simp
  unfold getE getN getTo
  rw [if_neg h1, if_neg h1, if_neg h1, if_neg h2, if_neg h2, if_neg h2, e, show ((0 : Int)).toNat = 0 from rfl, List.drop_zero]
  refine ⟨rfl, rfl, fun h3 => ?_⟩
  have h4 : (dec 0 0 (l.drop t)).2.2 = 0 := by omega
  rw [if_pos h4, if_pos h4]
  omega
theorem pay_shift (a n : Nat) : pay l (t + a) n = pay (l.drop t) a n := by unfold pay; rw [List.drop_drop]
theorem rd_shift (h : t ≤ l.length) : rdE l (t : Int) = rdE (l.drop t) 0 ∧ rdP l (t : Int) = rdP (l.drop t) 0 ∧ (rdE l (t : Int) = 0 → rdT l (t : Int) = (t : Int) + rdT (l.drop t) 0 ∧ (t : Int) < rdT l (t : Int) ∧ rdT l (t : Int) ≤ (l.length : Int)) := by
  obtain ⟨h1, h2, h3⟩ := get_shift h
  by_cases he : getE l (t : Int) = 0
  · have he0 : getE (l.drop t) 0 = 0 := h1 ▸ he
    obtain ⟨n, f, hn, hf, hfl, _⟩ := get_ok he0
    have h3' := h3 he
    rw [hf] at h3'
    rw [hn] at h2
    have hf' : getTo l (t : Int) = ((t + f : Nat) : Int) := by omega
    rw [List.length_drop] at hfl
    by_cases hl : 65536 < n
    · obtain ⟨a1, a2, a3⟩ := rd_long he h2 hl
      obtain ⟨b1, b2, b3⟩ := rd_long he0 hn hl
      exact ⟨a1.trans b1.symm, a2.trans b2.symm, fun h0 => by rw [a1] at h0; cases h0⟩
    · by_cases hs : l.length < t + f + n + 4
      · obtain ⟨a1, a2, a3⟩ := rd_short he h2 hf' hl hs
        obtain ⟨b1, b2, b3⟩ := rd_short he0 hn hf hl (by rw [List.length_drop]; omega)
        exact ⟨a1.trans b1.symm, a2.trans b2.symm, fun h0 => by rw [a1] at h0; cases h0⟩
      · have hs' : ¬ (l.drop t).length < f + n + 4 := by rw [List.length_drop]; omega
        by_cases hq : pay l (t + f + n) 4 = RefSum.four (Crc.sum (pay l (t + f) n))
        · obtain ⟨a1, a2, a3⟩ := rd_good he h2 hf' hl hs hq
          obtain ⟨b1, b2, b3⟩ := rd_good he0 hn hf hl hs' (by rw [← pay_shift, ← pay_shift, ← Nat.add_assoc]; exact hq)
          refine ⟨a1.trans b1.symm, ?_, fun _ => ⟨by rw [a3, b3]; omega, by rw [a3]; omega, by rw [a3]; omega⟩⟩
          rw [a2, b2, pay_shift]
        · obtain ⟨a1, a2, a3⟩ := rd_sum he h2 hf' hl hs hq
          obtain ⟨b1, b2, b3⟩ := rd_sum he0 hn hf hl hs' (by rw [← pay_shift, ← pay_shift, ← Nat.add_assoc]; exact hq)
          exact ⟨a1.trans b1.symm, a2.trans b2.symm, fun h0 => by rw [a1] at h0; cases h0⟩
  · have he0 : getE (l.drop t) 0 ≠ 0 := h1 ▸ he
    obtain ⟨a1, a2, a3⟩ := rd_err he
    obtain ⟨b1, b2, b3⟩ := rd_err he0
    refine ⟨by rw [a1, b1, h1], a2.trans b2.symm, fun h0 => absurd (a1.symm.trans h0) he⟩
end
/-- From place t on as far as the payloads P. -/
def At (l : List UInt8) (t : Nat) (P : List (List UInt8)) : Prop := t ≤ l.length ∧ P.length ≤ t ∧ ∃ k, l.length ≤ t + k ∧ held l = P ++ heldF k (l.drop t)
theorem at_start (l : List UInt8) : At l 0 [] := ⟨Nat.zero_le _, Nat.le_refl _, l.length, by omega, by simp [held]⟩
theorem at_end {l : List UInt8} {t : Nat} {P : List (List UInt8)} (h : At l t P) (he : rdE l (t : Int) ≠ 0) : held l = P := by
  obtain ⟨h1, _, k, _, h3⟩ := h
  rw [h3, heldF_bad (by rw [← (rd_shift h1).1]; exact he), List.append_nil]
theorem at_next {l : List UInt8} {t : Nat} {P : List (List UInt8)} (h : At l t P) (he : rdE l (t : Int) = 0) : ∃ u : Nat, rdT l (t : Int) = (u : Int) ∧ t < u ∧ u ≤ l.length ∧ At l u (P ++ [rdP l (t : Int)]) := by
  obtain ⟨h1, h2, k, hk, h3⟩ := h
  obtain ⟨s1, s2, s3⟩ := rd_shift h1
  obtain ⟨s4, s5, s6⟩ := s3 he
  obtain ⟨u, hu⟩ : ∃ u : Nat, rdT l (t : Int) = (u : Int) := ⟨(rdT l (t : Int)).toNat, by omega⟩
  refine ⟨u, hu, by omega, by omega, by omega, by simp; omega, k - 1, by omega, ?_⟩
  obtain ⟨k', rfl⟩ : ∃ k', k = k' + 1 := ⟨k - 1, by omega⟩
  rw [h3, heldF, if_pos (by rw [← s1]; exact he), ← s2, List.drop_drop, show t + (rdT (l.drop t) 0).toNat = u by omega]
  simp
theorem held_len (l : List UInt8) : (held l).length ≤ l.length := by
  have key : ∀ (k : Nat) (l : List UInt8), (heldF k l).length ≤ k := fun k => by
    induction k with
    | zero => intro l; simp [heldF]
    | succ k ih =>
      intro l
      rw [heldF]
      split
      · have := ih (l.drop (rdT l 0).toNat)
        simp only [List.length_cons]
        omega
      · simp
  exact key _ _

/-! ### All files together -/
def lenOf (o : Option DFile) : Nat := match o with | some f => f.data.length | none => 0
theorem sum_le : ∀ (fs : List DFile) (ns : List (List UInt8)), ns.Nodup → (ns.map fun n => lenOf (filed n fs)).sum ≤ (fs.map fun f => f.data.length).sum
  | [], ns, h => by
    have : (ns.map fun n => lenOf (filed n [])) = ns.map fun _ => 0 := List.map_congr_left fun n _ => rfl
    rw [this]
    clear this h
    induction ns with
    | nil => simp
    | cons a r ih => simpa using ih
  | f :: r, ns, h => by
    have ih := sum_le r ns h
    have key : ∀ ns : List (List UInt8), ns.Nodup → (ns.map fun n => lenOf (filed n (f :: r))).sum ≤ (if f.name ∈ ns then f.data.length else 0) + (ns.map fun n => lenOf (filed n r)).sum := fun ns hn => by
      induction ns with
      | nil => simp
      | cons a q ihq =>
        rw [List.nodup_cons] at hn
        have h1 := ihq hn.2
        simp only [List.map_cons, List.sum_cons, List.mem_cons]
        rw [look_cons]
        by_cases e : f.name = a
        · have hq : f.name ∉ q := by rw [e]; exact hn.1
          rw [if_neg hq] at h1
          rw [if_pos e, if_pos (Or.inl e)]
          have e2 : lenOf (some f) = f.data.length := rfl
          omega
        · rw [if_neg e]
          by_cases hq : f.name ∈ q
          · rw [if_pos hq] at h1
            rw [if_pos (Or.inr hq)]
            omega
          · rw [if_neg hq] at h1
            rw [if_neg (fun h => h.elim e hq)]
            omega
    have h1 := key ns h
    simp only [List.map_cons, List.sum_cons]
    split at h1 <;> omega
/-- How many bytes the files from first on have, m of them. -/
def upTo (d : DSt) (first m : Nat) : Nat := ((List.range m).map fun i => lenOf (filed (name (first + i)) d.files)).sum
theorem upTo_le (d : DSt) (first m : Nat) : upTo d first m ≤ tot d := by
  have h := sum_le d.files ((List.range m).map fun i => name (first + i)) (by
    refine List.Pairwise.map _ (R := fun a b => a ≠ b) (fun a b hab e => hab (by have := name_inj e; omega)) List.nodup_range)
  rw [List.map_map] at h
  exact h
theorem upTo_next (d : DSt) (first m : Nat) : upTo d first (m + 1) = upTo d first m + lenOf (filed (name (first + m)) d.files) := by
  unfold upTo
  rw [List.range_succ, List.map_append, List.sum_append]
  simp
theorem read_len {d : DSt} {n : Nat} (hg : DkSpec.Good d) (hn : n ≤ most) (h0 : (DkSpec.read (name n) d).1 = 0) : (DkSpec.read (name n) d).2.length = lenOf (filed (name n) d.files) := by
  cases ho : d.off with
  | true =>
    have hr : refused (name n) (name n) d = 23 := by unfold refused; simp [name_ok hn, ho]
    unfold DkSpec.read at h0
    rw [hr, if_pos (by decide)] at h0
    cases h0
  | false =>
    rw [read_look hg (name_ok hn) ho] at h0 ⊢
    cases hf : filed (name n) d.files with
    | none => rw [hf] at h0; cases h0
    | some f => rfl
theorem file_le {d : DSt} {n : Nat} (hg : DkSpec.Good d) (hn : n ≤ most) : (DkSpec.read (name n) d).2.length ≤ tot d := by
  by_cases h0 : (DkSpec.read (name n) d).1 = 0
  · rw [read_len hg hn h0]
    have h := upTo_le d n 1
    have h1 := upTo_next d n 0
    rw [h1] at h
    have : upTo d n 0 = 0 := rfl
    rw [Nat.add_zero] at h
    omega
  · have : (DkSpec.read (name n) d).2 = [] := by
      unfold DkSpec.read at h0 ⊢
      split
      · rfl
      · rename_i hr
        rw [if_neg hr] at h0
        split at h0
        · rename_i hp; rw [if_pos hp]
        · exact absurd rfl h0
    rw [this]
    exact Nat.zero_le _
theorem data_le {d : DSt} {f : DFile} (h : f ∈ d.files) : f.data.length ≤ tot d := by
  unfold tot
  generalize d.files = l at h
  induction l with
  | nil => cases h
  | cons g r ih =>
    rw [List.map_cons, List.sum_cons]
    rcases List.mem_cons.1 h with rfl | h
    · omega
    · have := ih h
      omega

/-! ### Digits -/
theorem digs_dec (n : Nat) : Lib.decDigits n = digs n := by
  induction n using Nat.strongRecOn with
  | _ n ih =>
    by_cases h : n < 10
    · rw [digs_small h, Lib.decDigits, dif_pos h]
    · rw [digs_step h, Lib.decDigits, dif_neg h, ih (n / 10) (by omega)]
end Go.Proofs.YtapbjmbakpopcaaGreatDoor.WpPlain

