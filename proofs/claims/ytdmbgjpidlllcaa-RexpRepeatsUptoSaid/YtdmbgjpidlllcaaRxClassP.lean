/- A class while it is parsed, in plain words, and its frame. No conditions but those that the theorems name. -/
import Derived.Test.YtdmbgjpidlllcaaRxAtoms
namespace Go.Proofs.Ytdmbgjpidlllcaa.RxClassP
open Go Go.RowKit Words AppN Km Mo_ RxSpec RxEq RxMem RxPeek RxIn RxEsc RxMbr RxClean RxNode RxPost RxRowP RxRow RxAlt RxItemP RxItem RxAtom

def casts (l : List Nat) : List Int := l.map fun (n : Nat) => (n : Int)
theorem casts_app (a b : List Nat) : casts (a ++ b) = casts a ++ casts b := by simp [casts]
def small (l : List Nat) : Prop := ∀ x ∈ l, x ≤ 1114111
theorem esc_small {l m r1 : List Nat} (h : esc l = some (m, r1)) (hl : small l) : small m := by
  cases l with
  | nil => cases h
  | cons r t =>
    have hr : r ≤ 1114111 := hl r (by simp)
    rw [esc_cons] at h
    repeat' split at h
    all_goals first
      | (cases h; done)
      | (simp only [Option.some.injEq, Prod.mk.injEq] at h
         rw [← h.1]
         intro x hx
         simp at hx
         omega)
theorem member_small {l m r1 : List Nat} (h : member l = some (m, r1)) (hl : small l) : small m := by
  cases l with
  | nil => cases h
  | cons r t =>
    rw [member_cons] at h
    split at h
    · exact esc_small h (fun x hx => hl x (by simp [hx]))
    split at h
    · cases h
    · simp only [Option.some.injEq, Prod.mk.injEq] at h
      rw [← h.1]
      intro x hx
      simp at hx
      rw [hx]; exact hl r (by simp)
theorem drop_small {rs : List Nat} (h : small rs) (n : Nat) : small (rs.drop n) := fun x hx => h x (List.mem_of_mem_drop hx)
/-- Good so far. -/
structure ClG (rs : List Nat) (a0 : Nat) (q q' : PSt) (zs : List Int) (set : List Nat) (first : Bool) : Prop where
  good : q'.bad = false
  here : q'.at_ ≤ rs.length
  deep : q'.deep = q.deep
  most : q'.most = q.most
  vals : zs = casts set
  small : RxClassP.small set
  same : classL [] true (rs.drop a0) = classL set first (rs.drop q'.at_)
  on : a0 ≤ q'.at_
  len : set.length ≤ 8 * (q'.at_ - a0)
structure ClB (rs : List Nat) (a0 : Nat) (q q' : PSt) (zs : List Int) : Prop where
  bad : q'.bad = true
  here : q'.at_ ≤ rs.length + 2
  deep : q'.deep = q.deep
  none_ : classL [] true (rs.drop a0) = none
  len : zs.length ≤ 8 * 1001 + 8
def ClSt (rs : List Nat) (a0 : Nat) (q q' : PSt) (zs : List Int) (first : Bool) : Prop := (∃ set, ClG rs a0 q q' zs set first) ∨ (first = false ∧ ClB rs a0 q q' zs)
section
variable {rs : List Nat} {a0 : Nat} {q q' q1 q2 : PSt} {zs zs1 zs2 : List Int} {set : List Nat} {first : Bool} {x : Nat}
theorem ClG.open_ (h : ClG rs a0 q q' zs set first) (hc : ¬ (first = false ∧ hd (rs.drop q'.at_) 93 = true)) : classL [] true (rs.drop a0) = match piece (rs.drop q'.at_) with
    | none => none
    | some (m, r1) => classL (set ++ m) false r1 := by
  rw [h.same, classL_eq, if_neg (by
    intro h2
    simp only [Bool.and_eq_true, Bool.not_eq_true'] at h2
    exact hc h2)]
  rfl
/-- A member alone. -/
theorem ClG.one (h : ClG rs a0 q q' zs set first) (hl : rs.length ≤ 1000) (hs : RxClassP.small rs) (hc : ¬ (first = false ∧ hd (rs.drop q'.at_) 93 = true)) (hd1 : q1.deep = q'.deep) (hm1 : q1.most = q'.most) (hat : q1.at_ ≤ rs.length + 2) (hz8 : zs1.length ≤ 8)
    (hyes : ∀ m r1, member (rs.drop q'.at_) = some (m, r1) → zs1 = casts m ∧ q1.bad = false ∧ q1.at_ ≤ rs.length ∧ rs.drop q1.at_ = r1) (hno : member (rs.drop q'.at_) = none → q1.bad = true) (hbar : q1.bad = false → hd (rs.drop q1.at_) 45 = false) : ClSt rs a0 q q1 (zs ++ zs1) false := by
  have ho := h.open_ hc
  have hlen := h.len
  have hon := h.on
  have hh := h.here
  have hzl : zs.length = set.length := by rw [h.vals]; simp [casts]
  cases hm : member (rs.drop q'.at_) with
  | none =>
    have hp : piece (rs.drop q'.at_) = none := by unfold piece; rw [hm]
    rw [hp] at ho
    exact .inr ⟨rfl, hno hm, hat, hd1.trans h.deep, ho, by rw [List.length_append]; omega⟩
  | some y =>
    obtain ⟨m, r1⟩ := y
    obtain ⟨y1, y2, y3, y4⟩ := hyes m r1 hm
    have hp : piece (rs.drop q'.at_) = some (m, r1) := by
      unfold piece; rw [hm]; simp only
      rw [if_neg (by rw [← y4, hbar y2]; simp)]
    rw [hp] at ho
    have hsh := member_short hm
    rw [← y4, List.length_drop, List.length_drop] at hsh
    have hml : m.length = zs1.length := by rw [y1]; simp [casts]
    refine .inl ⟨set ++ m, y2, y3, hd1.trans h.deep, hm1.trans h.most, by rw [casts_app, ← y1, ← h.vals], fun x hx => ?_, by rw [ho, y4], by omega, by rw [List.length_append]; omega⟩
    rcases List.mem_append.1 hx with hx | hx
    · exact h.small x hx
    · exact member_small hm (drop_small hs _) x hx
/-- Two members with - between them. -/
theorem ClG.two (h : ClG rs a0 q q' zs set first) (hl : rs.length ≤ 1000) (hs : RxClassP.small rs) (hc : ¬ (first = false ∧ hd (rs.drop q'.at_) 93 = true)) {m r1 : List Nat} (hm : member (rs.drop q'.at_) = some (m, r1)) (hz1 : zs1 = casts m) (hg1 : rs.drop q1.at_ = r1) (hb1 : q1.at_ ≤ rs.length) (hbar : hd r1 45 = true)
    {b2 : Bool} {at2 : Nat} (hat : at2 ≤ rs.length + 2) (_hz2 : 2 ≤ zs2.length)
    (hyes : ∀ k r2, member r1.tail = some (k, r2) → zs2 = casts k ∧ b2 = false ∧ at2 ≤ rs.length ∧ rs.drop at2 = r2) (hno : member r1.tail = none → b2 = true)
    {bad : Bool} (hbad : bad = true ↔ (zs1.length ≠ 2 ∨ zs2.length ≠ 2 ∨ zs1.getD 0 0 ≠ zs1.getD 1 0 ∨ zs2.getD 0 0 ≠ zs2.getD 1 0 ∨ zs2.getD 0 0 < zs1.getD 0 0))
    (hq : q2 = { q' with at_ := at2, bad := b2 || bad }) : ClSt rs a0 q q2 (zs ++ [zs1.getD 0 0, zs2.getD 0 0]) false := by
  subst hq
  have ho := h.open_ hc
  have hlen := h.len
  have hon := h.on
  have hh := h.here
  have hzl : zs.length = set.length := by rw [h.vals]; simp [casts]
  have hsh := member_short hm
  rw [← hg1, List.length_drop, List.length_drop] at hsh
  cases hk : member r1.tail with
  | none =>
    have hp : piece (rs.drop q'.at_) = none := by unfold piece; rw [hm]; simp only; rw [if_pos hbar, hk]
    rw [hp] at ho
    exact .inr ⟨rfl, by simp only; rw [hno hk]; rfl, hat, h.deep, ho, by rw [List.length_append]; simp; omega⟩
  | some y =>
    obtain ⟨k, r2⟩ := y
    obtain ⟨y1, y2, y3, y4⟩ := hyes k r2 hk
    have hsh2 := member_short hk
    have ht := hd_tail hbar
    rw [← hg1, List.length_drop] at ht
    rw [← y4, ← hg1, List.length_drop] at hsh2
    have hp : piece (rs.drop q'.at_) = (fromTo m k).map fun x => (x, r2) := by unfold piece; rw [hm]; simp only; rw [if_pos hbar, hk]
    have g : ∀ (l : List Nat) (i : Nat), (casts l).getD i 0 = ((l.getD i 0 : Nat) : Int) := fun l i => by
      simp only [casts, List.getD_eq_getElem?_getD, List.getElem?_map]
      cases l[i]? <;> rfl
    rw [hz1, y1, g, g, g, g] at hbad
    have hml : (casts m).length = m.length := by simp [casts]
    have hkl : (casts k).length = k.length := by simp [casts]
    rw [hml, hkl] at hbad
    cases hb : bad with
    | true =>
      have hf : fromTo m k = none := by
        unfold fromTo
        rw [if_neg]
        have := hbad.1 hb
        omega
      rw [hp, hf] at ho
      exact .inr ⟨rfl, by simp, by simp only; omega, h.deep, ho, by rw [List.length_append]; simp; omega⟩
    | false =>
      have hnb : ¬ (bad = true) := by rw [hb]; simp
      have hf : fromTo m k = some [m.getD 0 0, k.getD 0 0] := by
        unfold fromTo
        rw [if_pos]
        have := mt hbad.2 hnb
        omega
      rw [hp, hf] at ho
      simp only [Option.map_some] at ho
      refine .inl ⟨set ++ [m.getD 0 0, k.getD 0 0], by simp only; rw [y2]; rfl, y3, h.deep, h.most, ?_, fun x hx => ?_, by rw [ho, y4], by simp only; omega, by rw [List.length_append]; simp; omega⟩
      · rw [casts_app, ← h.vals, hz1, y1, g, g]; rfl
      · rcases List.mem_append.1 hx with hx | hx
        · exact h.small x hx
        · have hms := member_small hm (drop_small hs _)
          have hks := member_small hk (by rw [← hg1, drop_tail]; exact drop_small hs _)
          have g2 : ∀ l : List Nat, RxClassP.small l → l.getD 0 0 ≤ 1114111 := fun l hl => by
            cases l with
            | nil => simp
            | cons a l => exact hl a (by simp)
          simp at hx
          rcases hx with rfl | rfl
          · have := g2 m hms; simpa using this
          · have := g2 k hks; simpa using this
end
end Go.Proofs.Ytdmbgjpidlllcaa.RxClassP
