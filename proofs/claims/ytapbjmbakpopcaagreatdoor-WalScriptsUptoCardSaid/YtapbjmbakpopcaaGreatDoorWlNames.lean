/- Plain: files looked up by their names; what each change of a disk leaves of them. Of no program. No conditions. · Plain: the names of a log's files: "wal-" and a number's decimal digits; no two numbers have one name, and each may be a file's name. Of no program. No conditions. -/
import Derived.Test.YtapbjmbakpopcaaGreatDoorPdLooks
namespace Go.Proofs.YtapbjmbakpopcaaGreatDoor.WlSpec
open Go DkSpec

/-- The file of a name. -/
def filed (name : List UInt8) (l : List DFile) : Option DFile := l.find? fun f => decide (f.name = name)
theorem look_none {name : List UInt8} {l : List DFile} (h : ∀ f ∈ l, f.name ≠ name) : filed name l = none := by
  unfold filed
  rw [List.find?_eq_none]
  intro f hf
  simpa using h f hf
theorem look_append (name : List UInt8) (a b : List DFile) : filed name (a ++ b) = (filed name a).or (filed name b) := by
  unfold filed
  rw [List.find?_append]
theorem look_cons (name : List UInt8) (f : DFile) (l : List DFile) : filed name (f :: l) = if f.name = name then some f else filed name l := by
  unfold filed
  rw [List.find?_cons]
  by_cases h : f.name = name <;> simp [h]
theorem look_name {name : List UInt8} {l : List DFile} {f : DFile} (h : filed name l = some f) : f.name = name ∧ f ∈ l := by
  unfold filed at h
  exact ⟨by have := List.find?_some h; simpa using this, List.mem_of_find?_eq_some h⟩
theorem less_ne {a b : List UInt8} (h : less a b = true) : a ≠ b := fun e => by rw [e, less_irrefl] at h; cases h
theorem look_before {name : List UInt8} {l : List DFile} (h : Rises l) : filed name (l.take (place name l).1) = none := look_none fun f hf => by
  obtain ⟨i, hi⟩ := List.mem_iff_getElem?.1 hf
  rw [List.getElem?_take] at hi
  split at hi
  · rename_i hlt
    exact less_ne (place_before h i hlt f hi)
  · cases hi
theorem look_behind {name : List UInt8} {l : List DFile} (h : Rises l) : filed name (l.drop ((place name l).1 + if (place name l).2 then 1 else 0)) = none := look_none fun f hf => by
  obtain ⟨i, hi⟩ := List.mem_iff_getElem?.1 hf
  rw [List.getElem?_drop] at hi
  exact (less_ne (place_behind h _ (by omega) f hi)).symm
/-- Whether it is there. -/
theorem look_place {name : List UInt8} {l : List DFile} (h : Rises l) : filed name l = if (place name l).2 then some (old name l) else none := by
  have hs : l = l.take (place name l).1 ++ l.drop (place name l).1 := (List.take_append_drop _ _).symm
  conv => lhs; rw [hs]
  rw [look_append, look_before h, Option.none_or]
  have hb := look_behind (name := name) h
  cases hp : (place name l).2 with
  | false =>
    rw [hp] at hb
    simpa using hb
  | true =>
    obtain ⟨h1, h2⟩ := (place_le name l).2 hp
    rw [List.drop_eq_getElem_cons h1, look_cons]
    rw [List.getD, List.getElem?_eq_getElem h1] at h2
    simp only [Option.getD_some] at h2
    rw [if_pos h2]
    unfold old
    rw [hp]
    simp [List.getD, List.getElem?_eq_getElem h1]
theorem look_put {a : List UInt8} {f : DFile} {l : List DFile} (h : Rises l) : filed a (put f l) = if f.name = a then some f else filed a l := by
  unfold put
  rw [look_append, look_cons]
  by_cases e : f.name = a
  · rw [if_pos e, if_pos e]
    subst e
    rw [look_before h, Option.none_or]
  · rw [if_neg e, if_neg e, ← look_append]
    cases hp : (place f.name l).2 with
    | false => simp [List.take_append_drop]
    | true =>
      obtain ⟨h1, h2⟩ := (place_le f.name l).2 hp
      rw [List.getD, List.getElem?_eq_getElem h1] at h2
      simp only [Option.getD_some] at h2
      rw [if_pos rfl]
      conv => rhs; rw [← List.take_append_drop (place f.name l).1 l, List.drop_eq_getElem_cons h1]
      rw [look_append, look_append, look_cons, if_neg (by rw [h2]; exact e)]
theorem look_del {a name : List UInt8} {l : List DFile} (h : Rises l) (hp : (place name l).2 = true) : filed a (del (place name l).1 l) = if name = a then none else filed a l := by
  obtain ⟨h1, h2⟩ := (place_le name l).2 hp
  rw [List.getD, List.getElem?_eq_getElem h1] at h2
  simp only [Option.getD_some] at h2
  unfold del
  rw [look_append]
  by_cases e : name = a
  · rw [if_pos e]
    subst e
    have hb := look_behind (name := name) h
    rw [hp] at hb
    rw [look_before h, Option.none_or]
    simpa using hb
  · rw [if_neg e]
    conv => rhs; rw [← List.take_append_drop (place name l).1 l, List.drop_eq_getElem_cons h1]
    rw [look_append, look_cons, if_neg (by rw [h2]; exact e)]
theorem look_sync {a name : List UInt8} {l : List DFile} (h : Rises l) (hp : (place name l).2 = true) :
    filed a (l.modify (place name l).1 fun f => { f with synced := f.data.length }) = (filed a l).map fun f => if name = a then { f with synced := f.data.length } else f := by
  obtain ⟨h1, h2⟩ := (place_le name l).2 hp
  rw [List.getD, List.getElem?_eq_getElem h1] at h2
  simp only [Option.getD_some] at h2
  have hm : l.modify (place name l).1 (fun f => { f with synced := f.data.length }) = l.take (place name l).1 ++ { (l[(place name l).1]) with synced := (l[(place name l).1]).data.length } :: l.drop ((place name l).1 + 1) := by
    rw [List.modify_eq_take_cons_drop h1]
  rw [hm]
  conv => rhs; rw [← List.take_append_drop (place name l).1 l, List.drop_eq_getElem_cons h1]
  rw [look_append, look_append, look_cons, look_cons]
  by_cases e : name = a
  · subst e
    rw [look_before h]
    simp [h2]
  · rw [if_neg (by simp only; rw [h2]; exact e), if_neg (by rw [h2]; exact e)]
    simp [e]
/-- A restart keeps of each file what was synced, and some more. -/
theorem look_kept {a : List UInt8} : ∀ (l : List DFile) (ks : List Int), (filed a l = none → filed a (kept l ks) = none) ∧
    ∀ f, filed a l = some f → f.synced ≤ f.data.length → ∃ m, f.synced ≤ m ∧ m ≤ f.data.length ∧ filed a (kept l ks) = some ⟨f.name, f.data.take m, m⟩
  | [], _ => ⟨fun _ => rfl, fun f h => by simp [filed] at h⟩
  | g :: r, ks => by
    have ih := look_kept (a := a) r ks.tail
    rw [kept, look_cons, look_cons]
    by_cases e : g.name = a
    · rw [if_pos e]
      refine ⟨fun h => (by cases h), fun f hf hs => ?_⟩
      cases hf
      refine ⟨stays g (ks.headD 0), ?_, ?_, ?_⟩
      · unfold stays; omega
      · unfold stays; omega
      · simp [e]
    · rw [if_neg e]
      simpa [e] using ih

/-! ### What the calls leave -/
theorem read_look {name : List UInt8} {d : DSt} (h : DkSpec.Good d) (hn : nameOk name = true) (ho : d.off = false) : DkSpec.read name d = match filed name d.files with | some f => (0, f.data) | none => (21, []) := by
  have hr : refused name name d = 0 := by unfold refused; simp [hn, ho]
  unfold DkSpec.read
  rw [if_neg (by rw [hr]; decide), look_place h.1]
  cases (place name d.files).2 <;> rfl
theorem append_off {name data : List UInt8} {d : DSt} (hn : nameOk name = true) (ho : d.off = true) : append name data d = (23, d) := by
  have hr : refused name name d = 23 := by unfold refused; simp [hn, ho]
  unfold append
  rw [hr, if_pos (by decide)]
theorem append_look {name data : List UInt8} {d : DSt} (h : DkSpec.Good d) (hn : nameOk name = true) (ho : d.off = false) (hf : d.full = false) :
    (append name data d).1 = 0 ∧ (append name data d).2.full = false ∧ (append name data d).2.left = (stepped d).left ∧ (append name data d).2.off = (stepped d).off ∧
    ∀ a, filed a (append name data d).2.files = if name = a then some (match filed name d.files with | some f => ⟨name, f.data ++ data, f.synced⟩ | none => ⟨name, data, 0⟩) else filed a d.files := by
  have hr : refused name name d = 0 := by unfold refused; simp [hn, ho]
  have hsf : (stepped d).full = false := by unfold stepped; split <;> simp [hf]
  unfold append
  rw [if_neg (by rw [hr]; decide), if_neg (by simp [hf])]
  refine ⟨rfl, hsf, rfl, rfl, fun a => ?_⟩
  simp only
  rw [look_put h.1]
  simp only
  rw [look_place h.1 (name := name)]
  by_cases e : name = a
  · rw [if_pos e, if_pos e]
    unfold old
    cases (place name d.files).2 <;> rfl
  · rw [if_neg e, if_neg e]
theorem sync_off {name : List UInt8} {d : DSt} (hn : nameOk name = true) (ho : d.off = true) : sync name d = (23, d) := by
  have hr : refused name name d = 23 := by unfold refused; simp [hn, ho]
  unfold sync
  rw [hr, if_pos (by decide)]
theorem good_sync {name : List UInt8} {d : DSt} (h : DkSpec.Good d) : DkSpec.Good (sync name d).2 := by
  unfold sync
  split
  · exact h
  · split
    · exact ⟨by rw [stepped_files]; exact h.1, by rw [stepped_files]; exact h.2⟩
    · refine ⟨?_, fun f hf => ?_⟩
      · have hm : ((d.files.modify (place name d.files).1 fun f => { f with synced := f.data.length }).map (·.name)) = d.files.map (·.name) := by
          apply List.ext_getElem?
          intro i
          rw [List.getElem?_map, List.getElem?_map, List.getElem?_modify]
          cases d.files[i]? with
          | none => rfl
          | some f => by_cases e : (place name d.files).1 = i <;> simp [e]
        have h1 : (d.files.map (·.name)).Pairwise (fun a b => less a b = true) := List.pairwise_map.2 h.1
        rw [← hm] at h1
        exact List.pairwise_map.1 h1
      · obtain ⟨i, hi⟩ := List.mem_iff_getElem?.1 hf
        rw [List.getElem?_modify] at hi
        cases hd : d.files[i]? with
        | none => rw [hd] at hi; cases hi
        | some g =>
          rw [hd] at hi
          have hg := h.2 g (List.mem_of_getElem? hd)
          by_cases e : (place name d.files).1 = i
          · simp [e] at hi
            subst hi
            exact ⟨hg.1, Nat.le_refl _⟩
          · simp [e] at hi
            subst hi
            exact hg
theorem sync_look {name : List UInt8} {d : DSt} (h : DkSpec.Good d) (hn : nameOk name = true) (ho : d.off = false) {f : DFile} (hl : filed name d.files = some f) :
    (sync name d).1 = 0 ∧ (sync name d).2.full = d.full ∧ (sync name d).2.left = (stepped d).left ∧ (sync name d).2.off = (stepped d).off ∧
    ∀ a, filed a (sync name d).2.files = if name = a then some ⟨name, f.data, f.data.length⟩ else filed a d.files := by
  have hr : refused name name d = 0 := by unfold refused; simp [hn, ho]
  have hp : (place name d.files).2 = true := by
    rw [look_place h.1] at hl
    cases hp : (place name d.files).2 with
    | true => rfl
    | false => rw [hp] at hl; cases hl
  unfold sync
  rw [if_neg (by rw [hr]; decide), if_neg (by simp [hp])]
  refine ⟨rfl, by unfold stepped; split <;> rfl, rfl, rfl, fun a => ?_⟩
  simp only
  rw [look_sync h.1 hp]
  by_cases e : name = a
  · subst e
    rw [if_pos rfl, hl]
    simp [(look_name hl).1]
  · rw [if_neg e]
    simp [e]
theorem restart_look {ks : List Int} {d : DSt} (h : DkSpec.Good d) (a : List UInt8) :
    (filed a d.files = none → filed a (restart ks d).files = none) ∧
    ∀ f, filed a d.files = some f → ∃ m, f.synced ≤ m ∧ m ≤ f.data.length ∧ filed a (restart ks d).files = some ⟨f.name, f.data.take m, m⟩ := by
  obtain ⟨h1, h2⟩ := look_kept (a := a) d.files ks
  exact ⟨h1, fun f hf => h2 f hf (h.2 f (look_name hf).2).2⟩
end Go.Proofs.YtapbjmbakpopcaaGreatDoor.WlSpec

namespace Go.Proofs.YtapbjmbakpopcaaGreatDoor.WlName
open Go DkSpec

def digs (n : Nat) : List UInt8 := if h : n < 10 then [UInt8.ofNat (48 + n)] else digs (n / 10) ++ [UInt8.ofNat (48 + n % 10)]
termination_by n
decreasing_by omega
theorem digs_small {n : Nat} (h : n < 10) : digs n = [UInt8.ofNat (48 + n)] := by rw [digs, dif_pos h]
theorem digs_step {n : Nat} (h : ¬ n < 10) : digs n = digs (n / 10) ++ [UInt8.ofNat (48 + n % 10)] := by rw [digs, dif_neg h]
def val (l : List UInt8) : Nat := l.foldl (fun a c => a * 10 + (c.toNat - 48)) 0
theorem val_snoc (l : List UInt8) (c : UInt8) : val (l ++ [c]) = val l * 10 + (c.toNat - 48) := by unfold val; rw [List.foldl_append]; rfl
theorem val_digs (n : Nat) : val (digs n) = n := by
  induction n using Nat.strongRecOn with
  | _ n ih =>
    by_cases h : n < 10
    · rw [digs_small h]
      unfold val
      simp [UInt8.toNat_ofNat']
      omega
    · rw [digs_step h, val_snoc, ih (n / 10) (by omega)]
      simp [UInt8.toNat_ofNat']
      omega
theorem digs_inj {a b : Nat} (h : digs a = digs b) : a = b := by rw [← val_digs a, h, val_digs]
theorem digs_byte (n : Nat) : ∀ c ∈ digs n, 48 ≤ c.toNat ∧ c.toNat ≤ 57 := by
  induction n using Nat.strongRecOn with
  | _ n ih =>
    intro c hc
    by_cases h : n < 10
    · rw [digs_small h] at hc
      simp at hc
      subst hc
      simp [UInt8.toNat_ofNat']
      omega
    · rw [digs_step h] at hc
      rcases List.mem_append.1 hc with hc | hc
      · exact ih (n / 10) (by omega) c hc
      · simp at hc
        subst hc
        simp [UInt8.toNat_ofNat']
        omega
theorem digs_len : ∀ (k n : Nat), n < 10 ^ (k + 1) → 1 ≤ (digs n).length ∧ (digs n).length ≤ k + 1
  | 0, n, h => by rw [digs_small (by simpa using h)]; simp
  | k + 1, n, h => by
    by_cases h1 : n < 10
    · rw [digs_small h1]; simp
    · have h2 : n / 10 < 10 ^ (k + 1) := by rw [Nat.div_lt_iff_lt_mul (by omega)]; rw [Nat.pow_succ] at h; exact h
      have ih := digs_len k (n / 10) h2
      rw [digs_step h1, List.length_append]
      simp only [List.length_cons, List.length_nil]
      omega
def most : Nat := 1000000000
def name (n : Nat) : List UInt8 := [119, 97, 108, 45] ++ digs n
theorem name_inj {a b : Nat} (h : name a = name b) : a = b := digs_inj (List.append_cancel_left h)
theorem name_ok {n : Nat} (h : n ≤ most) : nameOk (name n) = true := by
  have hl := digs_len 9 n (by unfold most at h; omega)
  unfold nameOk name
  simp only [Bool.and_eq_true, decide_eq_true_eq, List.all_eq_true]
  refine ⟨⟨by simp, by simp; omega⟩, fun c hc => ?_⟩
  rcases List.mem_append.1 hc with hc | hc
  · simp at hc
    rcases hc with rfl | rfl | rfl | rfl <;> rfl
  · have := digs_byte n c hc
    unfold nameByte
    simp
    omega
/-- What Name answers. -/
def nameI (n : Int) : List UInt8 := if n < 1 ∨ (most : Int) < n then [] else name n.toNat
end Go.Proofs.YtapbjmbakpopcaaGreatDoor.WlName

