/- A disk in plain lists (no program in this text): files in the order of names, whether it is full, whether it is down, how many changes are left; what each call answers and leaves. No conditions. -/
import Derived.Test.YtjninegpaoblfaaGreatDoorPlain
namespace Go.Proofs.YtjninegpaoblfaaGreatDoor.DkSpec
open Go

/-- A file: its name, its bytes, how many of them are synced. -/
structure DFile where
  name : List UInt8
  data : List UInt8
  synced : Nat
/-- A disk. -/
structure DSt where
  files : List DFile
  full : Bool
  off : Bool
  left : Int
def fresh : DSt := ⟨[], false, false, -1⟩

/-- One of a name's bytes. -/
def nameByte (c : UInt8) : Bool := c.toNat == 46 || c.toNat == 45 || (48 ≤ c.toNat && c.toNat ≤ 57) || (97 ≤ c.toNat && c.toNat ≤ 122)
def nameOk (s : List UInt8) : Bool := 1 ≤ s.length && s.length ≤ 32 && s.all nameByte

/-- Names, byte by byte. -/
def less : List UInt8 → List UInt8 → Bool
  | _, [] => false
  | [], _ :: _ => true
  | a :: r, b :: s => a.toNat < b.toNat || (a.toNat == b.toNat && less r s)

/-- A file's place, and whether it is there; else the place where it would be. -/
def place (name : List UInt8) : List DFile → Nat × Bool
  | [] => (0, false)
  | f :: r => if f.name = name then (0, true) else if less name f.name then (0, false) else ((place name r).1 + 1, (place name r).2)
/-- A file at its place, the one of its name gone. -/
def put (f : DFile) (l : List DFile) : List DFile := l.take (place f.name l).1 ++ f :: l.drop ((place f.name l).1 + if (place f.name l).2 then 1 else 0)
def del (i : Nat) (l : List DFile) : List DFile := l.take i ++ l.drop (i + 1)

/-- A change is counted. -/
def stepped (d : DSt) : DSt := if 0 < d.left then { d with left := d.left - 1, off := d.left == 1 } else d
/-- Whether a change is refused ahead of all: the error, or 0. -/
def refused (a b : List UInt8) (d : DSt) : Nat := if !nameOk a || !nameOk b then 1 else if d.off then 23 else 0

def old (name : List UInt8) (l : List DFile) : DFile := if (place name l).2 then l.getD (place name l).1 ⟨name, [], 0⟩ else ⟨name, [], 0⟩
def append (name data : List UInt8) (d : DSt) : Nat × DSt :=
  if refused name name d ≠ 0 then (refused name name d, d)
  else if d.full then (20, stepped d)
  else (0, { stepped d with files := put ⟨name, (old name d.files).data ++ data, (old name d.files).synced⟩ d.files })
def sync (name : List UInt8) (d : DSt) : Nat × DSt :=
  if refused name name d ≠ 0 then (refused name name d, d)
  else if !(place name d.files).2 then (21, stepped d)
  else (0, { stepped d with files := d.files.modify (place name d.files).1 fun f => { f with synced := f.data.length } })
def rename (a b : List UInt8) (d : DSt) : Nat × DSt :=
  if refused a b d ≠ 0 then (refused a b d, d)
  else if !(place a d.files).2 then (21, stepped d)
  else (0, { stepped d with files := put { old a d.files with name := b } (del (place a d.files).1 d.files) })
def delete (name : List UInt8) (d : DSt) : Nat × DSt :=
  if refused name name d ≠ 0 then (refused name name d, d)
  else if !(place name d.files).2 then (21, stepped d)
  else (0, { stepped d with files := del (place name d.files).1 d.files })
def read (name : List UInt8) (d : DSt) : Nat × List UInt8 :=
  if refused name name d ≠ 0 then (refused name name d, [])
  else if !(place name d.files).2 then (21, []) else (0, (old name d.files).data)
def list (d : DSt) : Nat × List (List UInt8) := if d.off then (23, []) else (0, d.files.map (·.name))
def arm (n : Int) (d : DSt) : DSt := if d.off then d else { d with left := if n < 0 then -1 else n, off := n == 0 }
/-- How many bytes of a file stay. -/
def stays (f : DFile) (k : Int) : Nat := min f.data.length (f.synced + k.toNat)
def kept : List DFile → List Int → List DFile
  | [], _ => []
  | f :: r, ks => { f with data := f.data.take (stays f (ks.headD 0)), synced := stays f (ks.headD 0) } :: kept r ks.tail
def restart (ks : List Int) (d : DSt) : DSt := ⟨kept d.files ks, false, false, -1⟩

/-- What holds of every disk: the names rise, and are names; no more is synced than there is. -/
def Good (d : DSt) : Prop := d.files.Pairwise (fun f g => less f.name g.name = true) ∧ ∀ f ∈ d.files, nameOk f.name = true ∧ f.synced ≤ f.data.length

theorem less_irrefl : ∀ s : List UInt8, less s s = false
  | [] => rfl
  | a :: r => by simp [less, less_irrefl r]
theorem less_trans : ∀ {a b c : List UInt8}, less a b = true → less b c = true → less a c = true
  | a, [], c, h, _ => by cases a <;> simp [less] at h
  | a, x :: r, [], _, h => by simp [less] at h
  | [], x :: r, y :: s, _, _ => rfl
  | z :: t, x :: r, y :: s, h1, h2 => by
    simp only [less, Bool.or_eq_true, decide_eq_true_eq, Bool.and_eq_true, beq_iff_eq] at h1 h2 ⊢
    rcases h1 with h1 | ⟨h1, h1'⟩
    · rcases h2 with h2 | ⟨h2, _⟩
      · left; omega
      · left; omega
    · rcases h2 with h2 | ⟨h2, h2'⟩
      · left; omega
      · right; exact ⟨by omega, less_trans h1' h2'⟩
theorem less_total : ∀ {a b : List UInt8}, a ≠ b → less a b = true ∨ less b a = true
  | [], [], h => absurd rfl h
  | [], _ :: _, _ => .inl rfl
  | _ :: _, [], _ => .inr rfl
  | x :: r, y :: s, h => by
    simp only [less, Bool.or_eq_true, decide_eq_true_eq, Bool.and_eq_true, beq_iff_eq]
    by_cases hxy : x = y
    · subst hxy
      rcases less_total (a := r) (b := s) (fun e => h (by rw [e])) with h1 | h1
      · exact .inl (.inr ⟨rfl, h1⟩)
      · exact .inr (.inr ⟨rfl, h1⟩)
    · have : x.toNat ≠ y.toNat := fun e => hxy (UInt8.toNat_inj.1 e)
      omega

/-- Where a file stands among rising names. -/
theorem place_le (name : List UInt8) : ∀ l : List DFile, (place name l).1 ≤ l.length ∧ ((place name l).2 = true → (place name l).1 < l.length ∧ (l.getD (place name l).1 ⟨name, [], 0⟩).name = name)
  | [] => by simp [place]
  | f :: r => by
    have ih := place_le name r
    rw [place]
    split
    · rename_i h; simp [h]
    · split
      · simp
      · simp only [List.length_cons, List.getD_cons_succ]
        exact ⟨by omega, fun h => ⟨by have := (ih.2 h).1; omega, (ih.2 h).2⟩⟩
theorem place_before {name : List UInt8} : ∀ {l : List DFile}, l.Pairwise (fun f g => less f.name g.name = true) → ∀ i, i < (place name l).1 → ∀ f, l[i]? = some f → less f.name name = true
  | [], _, i, hi, _, _ => by simp [place] at hi
  | f :: r, hp, i, hi, g, hg => by
    rw [place] at hi
    split at hi
    · simp at hi
    · rename_i h1
      split at hi
      · simp at hi
      · rename_i h2
        rcases less_total h1 with h | h
        · cases i with
          | zero => simp at hg; subst hg; exact h
          | succ i =>
            simp only [List.getElem?_cons_succ] at hg
            exact place_before (List.pairwise_cons.1 hp).2 i (by simpa using hi) g hg
        · exact absurd h (by simpa using h2)
theorem place_behind {name : List UInt8} : ∀ {l : List DFile}, l.Pairwise (fun f g => less f.name g.name = true) → ∀ i, (place name l).1 + (if (place name l).2 then 1 else 0) ≤ i → ∀ f, l[i]? = some f → less name f.name = true
  | [], _, i, _, f, hf => by simp at hf
  | g :: r, hp, i, hi, f, hf => by
    have hp' := List.pairwise_cons.1 hp
    rw [place] at hi
    split at hi
    · rename_i h
      simp only [if_pos] at hi
      obtain ⟨k, rfl⟩ : ∃ k, i = k + 1 := ⟨i - 1, by omega⟩
      simp only [List.getElem?_cons_succ] at hf
      rw [← h]
      exact hp'.1 f (List.mem_of_getElem? hf)
    · split at hi
      · rename_i h2
        cases i with
        | zero => simp at hf; subst hf; exact h2
        | succ k =>
          simp only [List.getElem?_cons_succ] at hf
          exact less_trans h2 (hp'.1 f (List.mem_of_getElem? hf))
      · obtain ⟨k, rfl⟩ : ∃ k, i = k + 1 := ⟨i - 1, by omega⟩
        simp only [List.getElem?_cons_succ] at hf
        exact place_behind hp'.2 k (by simp only at hi; omega) f hf

def Rises (l : List DFile) : Prop := l.Pairwise (fun f g => less f.name g.name = true)
theorem rises_take {l : List DFile} (h : Rises l) (i : Nat) : Rises (l.take i) := h.sublist (List.take_sublist i l)
theorem rises_drop {l : List DFile} (h : Rises l) (i : Nat) : Rises (l.drop i) := h.sublist (List.drop_sublist i l)
theorem del_rises {l : List DFile} (h : Rises l) (i : Nat) : Rises (del i l) := by
  unfold del
  refine h.sublist ?_
  conv => rhs; rw [← List.take_append_drop i l]
  exact List.Sublist.append (List.Sublist.refl _) (by rw [← List.drop_drop]; exact List.drop_sublist 1 _)
theorem put_rises {f : DFile} {l : List DFile} (h : Rises l) : Rises (put f l) := by
  have hle := (place_le f.name l).1
  unfold put
  refine List.pairwise_append.2 ⟨rises_take h _, List.pairwise_cons.2 ⟨fun g hg => ?_, rises_drop h _⟩, fun g hg k hk => ?_⟩
  · obtain ⟨i, hi⟩ := List.mem_iff_getElem?.1 hg
    rw [List.getElem?_drop] at hi
    exact place_behind h _ (by omega) g hi
  · obtain ⟨i, hi⟩ := List.mem_iff_getElem?.1 hg
    rw [List.getElem?_take] at hi
    split at hi
    · rename_i hlt
      have hgn := place_before h i hlt g hi
      rcases List.mem_cons.1 hk with rfl | hk
      · exact hgn
      · obtain ⟨j, hj⟩ := List.mem_iff_getElem?.1 hk
        rw [List.getElem?_drop] at hj
        exact less_trans hgn (place_behind h _ (by omega) k hj)
    · cases hi
theorem mem_put {f g : DFile} {l : List DFile} (h : g ∈ put f l) : g = f ∨ g ∈ l := by
  unfold put at h
  rcases List.mem_append.1 h with h | h
  · exact .inr (List.mem_of_mem_take h)
  · rcases List.mem_cons.1 h with h | h
    · exact .inl h
    · exact .inr (List.mem_of_mem_drop h)
theorem mem_del {g : DFile} {i : Nat} {l : List DFile} (h : g ∈ del i l) : g ∈ l := by
  unfold del at h
  rcases List.mem_append.1 h with h | h
  · exact List.mem_of_mem_take h
  · exact List.mem_of_mem_drop h
theorem old_good {name : List UInt8} {l : List DFile} (h : ∀ f ∈ l, nameOk f.name = true ∧ f.synced ≤ f.data.length) : (old name l).synced ≤ (old name l).data.length := by
  unfold old
  split
  · rename_i hp
    have hl := (place_le name l).2 hp
    have : l.getD (place name l).1 ⟨name, [], 0⟩ ∈ l := by
      rw [List.getD, List.getElem?_eq_getElem hl.1]
      exact List.getElem_mem _
    exact (h _ this).2
  · exact Nat.le_refl _
theorem refused_ok {a b : List UInt8} {d : DSt} (h : ¬ refused a b d ≠ 0) : nameOk a = true ∧ nameOk b = true ∧ d.off = false := by
  unfold refused at h
  cases ha : nameOk a <;> cases hb : nameOk b <;> cases ho : d.off <;> simp_all
theorem stepped_files (d : DSt) : (stepped d).files = d.files := by unfold stepped; split <;> rfl
theorem good_append {name data : List UInt8} {d : DSt} (h : Good d) : Good (append name data d).2 := by
  unfold append
  split
  · exact h
  · rename_i hr
    have hn := refused_ok hr
    split
    · exact ⟨by rw [stepped_files]; exact h.1, by rw [stepped_files]; exact h.2⟩
    · refine ⟨put_rises h.1, fun f hf => ?_⟩
      rcases mem_put hf with rfl | hf
      · exact ⟨hn.1, by have := old_good (name := name) h.2; simp only [List.length_append]; omega⟩
      · exact h.2 f hf
theorem good_delete {name : List UInt8} {d : DSt} (h : Good d) : Good (delete name d).2 := by
  unfold delete
  split
  · exact h
  · split
    · exact ⟨by rw [stepped_files]; exact h.1, by rw [stepped_files]; exact h.2⟩
    · exact ⟨del_rises h.1 _, fun f hf => h.2 f (mem_del hf)⟩
theorem good_rename {a b : List UInt8} {d : DSt} (h : Good d) : Good (rename a b d).2 := by
  unfold rename
  split
  · exact h
  · rename_i hr
    have hn := refused_ok hr
    split
    · exact ⟨by rw [stepped_files]; exact h.1, by rw [stepped_files]; exact h.2⟩
    · refine ⟨put_rises (del_rises h.1 _), fun f hf => ?_⟩
      rcases mem_put hf with rfl | hf
      · exact ⟨hn.2.1, old_good (name := a) h.2⟩
      · exact h.2 f (mem_del hf)
theorem kept_names : ∀ (l : List DFile) (ks : List Int), (kept l ks).map (·.name) = l.map (·.name)
  | [], _ => rfl
  | f :: r, ks => by simp [kept, kept_names r]
theorem good_restart {ks : List Int} {d : DSt} (h : Good d) : Good (restart ks d) := by
  have h1 : ∀ (l : List DFile) (ks : List Int), Rises l → Rises (kept l ks) := fun l ks hl => by
    have hm : (l.map (·.name)).Pairwise (fun a b => less a b = true) := List.pairwise_map.2 hl
    rw [← kept_names l ks] at hm
    exact List.pairwise_map.1 hm
  have h2 : ∀ (l : List DFile) (ks : List Int), (∀ f ∈ l, nameOk f.name = true ∧ f.synced ≤ f.data.length) → ∀ f ∈ kept l ks, nameOk f.name = true ∧ f.synced ≤ f.data.length := by
    intro l
    induction l with
    | nil => intro ks _ f hf; simp [kept] at hf
    | cons g r ih =>
      intro ks hl f hf
      rw [kept] at hf
      rcases List.mem_cons.1 hf with rfl | hf
      · exact ⟨(hl g (by simp)).1, by simp only [List.length_take, stays]; omega⟩
      · exact ih _ (fun f hf => hl f (by simp [hf])) f hf
  exact ⟨h1 _ _ h.1, h2 _ _ h.2⟩
end Go.Proofs.YtjninegpaoblfaaGreatDoor.DkSpec
