/- A disk in plain lists, looked at by name: what each call does to the file of each name; the names in their order are the sorted list of them. Of no program. Conditions: the names rise, where a theorem says so. · The contracts of isNameByte and isName: whether a text is a file's name, as 'DkSpec.nameOk' says; the world stands. Condition: the text's length is at most the model's greatest. -/
import Derived.Test.YtjninegpaoblfaaGreatDoorDkSpec
import Derived.Sort.KeysCollected
import Derived.Test.YtjninegpaoblfaaGreatDoorRefNames
namespace Go.Proofs.YtjninegpaoblfaaGreatDoor.PdLook
open Go DkSpec

/-- The file of a name. -/
def fileOf (s : List UInt8) : List DFile → Option DFile
  | [] => none
  | f :: r => if f.name = s then some f else fileOf s r

theorem look_name {s : List UInt8} : ∀ {l : List DFile} {f : DFile}, fileOf s l = some f → f.name = s ∧ f ∈ l
  | g :: r, f, h => by
    rw [fileOf] at h
    split at h
    · cases h; exact ⟨by assumption, by simp⟩
    · have := look_name h
      exact ⟨this.1, by simp [this.2]⟩
theorem look_none {s : List UInt8} : ∀ {l : List DFile}, (∀ f ∈ l, f.name ≠ s) → fileOf s l = none
  | [], _ => rfl
  | g :: r, h => by
    rw [fileOf, if_neg (h g (by simp))]
    exact look_none fun f hf => h f (by simp [hf])
theorem look_ahead {s : List UInt8} {l : List DFile} (h : ∀ f ∈ l, less s f.name = true) : fileOf s l = none := look_none fun f hf e => by
  have := h f hf
  rw [e, less_irrefl] at this
  cases this
theorem look_mem {l : List DFile} (hr : Rises l) {f : DFile} (hf : f ∈ l) : fileOf f.name l = some f := by
  induction l with
  | nil => cases hf
  | cons g r ih =>
    have hp := List.pairwise_cons.1 hr
    rw [fileOf]
    rcases List.mem_cons.1 hf with rfl | hf
    · rw [if_pos rfl]
    · rw [if_neg (fun e => by have := hp.1 f hf; rw [e, less_irrefl] at this; cases this)]
      exact ih hp.2 hf

theorem place_look {s : List UInt8} : ∀ {l : List DFile}, Rises l → (place s l).2 = (fileOf s l).isSome
  | [], _ => rfl
  | g :: r, h => by
    have hp := List.pairwise_cons.1 h
    rw [place, fileOf]
    split
    · rfl
    · split
      · rename_i h2
        rw [look_ahead (fun f hf => less_trans h2 (hp.1 f hf))]
        rfl
      · exact place_look hp.2
theorem old_look {s : List UInt8} {l : List DFile} (h : Rises l) : old s l = (fileOf s l).getD ⟨s, [], 0⟩ := by
  unfold old
  cases hl : fileOf s l with
  | none => rw [place_look h, hl]; rfl
  | some f =>
    rw [place_look h, hl, Option.isSome_some, if_pos rfl, Option.getD_some]
    have key : ∀ {l : List DFile}, Rises l → fileOf s l = some f → l.getD (place s l).1 ⟨s, [], 0⟩ = f := by
      intro l
      induction l with
      | nil => intro _ h; cases h
      | cons g r ih =>
        intro hr h
        have hp := List.pairwise_cons.1 hr
        rw [fileOf] at h
        rw [place]
        split at h
        · rename_i hg
          rw [if_pos hg]
          cases h
          rfl
        · rename_i hg
          rw [if_neg hg]
          split
          · rename_i h2
            rw [look_ahead (fun f hf => less_trans h2 (hp.1 f hf))] at h
            cases h
          · simp only [List.getD_cons_succ]
            exact ih hp.2 h
    exact key h hl

theorem put_cons (f g : DFile) (r : List DFile) : put f (g :: r) = if g.name = f.name then f :: r else if less f.name g.name then f :: g :: r else g :: put f r := by
  unfold put
  rw [place]
  split
  · simp
  · split
    · simp
    · simp only [List.take_succ_cons, List.cons_append, List.cons.injEq, true_and]
      congr 2
      rw [show (place f.name r).1 + 1 + (if (place f.name r).2 = true then 1 else 0) = ((place f.name r).1 + (if (place f.name r).2 = true then 1 else 0)) + 1 by omega, List.drop_succ_cons]
theorem look_put (f : DFile) (s : List UInt8) : ∀ l : List DFile, fileOf s (put f l) = if s = f.name then some f else fileOf s l
  | [] => by
    simp only [put, place, List.take_nil, List.nil_append, List.drop_nil, fileOf]
    by_cases h : s = f.name
    · rw [if_pos h.symm, if_pos h]
    · rw [if_neg (fun e => h e.symm), if_neg h]
  | g :: r => by
    rw [put_cons]
    by_cases h : s = f.name
    · subst h
      rw [if_pos rfl]
      split
      · simp [fileOf]
      · split
        · simp [fileOf]
        · rename_i h1 _
          rw [fileOf, if_neg h1, look_put f f.name r, if_pos rfl]
    · rw [if_neg h]
      split
      · rename_i h1
        rw [fileOf, if_neg (fun e => h e.symm), fileOf, if_neg (fun e => h (e.symm.trans h1))]
      · split
        · rw [fileOf, if_neg (fun e => h e.symm)]
        · rw [fileOf, fileOf, look_put f s r, if_neg h]
theorem del_cons_pos {a : List UInt8} {g : DFile} {r : List DFile} (h : g.name = a) : del (place a (g :: r)).1 (g :: r) = r := by
  rw [place, if_pos h]; rfl
theorem del_cons_neg {a : List UInt8} {g : DFile} {r : List DFile} (h : g.name ≠ a) (h2 : ¬ less a g.name = true) : del (place a (g :: r)).1 (g :: r) = g :: del (place a r).1 r := by
  rw [place, if_neg h, if_neg h2]; rfl
theorem look_del {a : List UInt8} (s : List UInt8) : ∀ {l : List DFile}, Rises l → (fileOf a l).isSome = true → fileOf s (del (place a l).1 l) = if s = a then none else fileOf s l
  | [], _, h => by cases h
  | g :: r, hr, h => by
    have hp := List.pairwise_cons.1 hr
    by_cases hg : g.name = a
    · rw [del_cons_pos hg]
      by_cases hs : s = a
      · rw [if_pos hs, hs]
        refine look_none fun f hf e => ?_
        have := hp.1 f hf
        rw [hg, e, less_irrefl] at this
        cases this
      · rw [if_neg hs, fileOf, if_neg (fun e => hs (e.symm.trans hg))]
    · rw [fileOf, if_neg hg] at h
      have h2 : ¬ less a g.name = true := fun h2 => by
        rw [look_ahead (fun f hf => less_trans h2 (hp.1 f hf))] at h
        cases h
      rw [del_cons_neg hg h2, fileOf, fileOf, look_del s hp.2 h]
      by_cases hs : s = a
      · subst hs
        rw [if_pos rfl, if_neg hg, if_pos rfl]
      · rw [if_neg hs, if_neg hs]
theorem look_modify {a : List UInt8} (s : List UInt8) (g : DFile → DFile) (hg : ∀ f, (g f).name = f.name) : ∀ {l : List DFile}, Rises l → (fileOf a l).isSome = true → fileOf s (l.modify (place a l).1 g) = if s = a then (fileOf a l).map g else fileOf s l
  | [], _, h => by cases h
  | x :: r, hr, h => by
    have hp := List.pairwise_cons.1 hr
    by_cases hx : x.name = a
    · rw [place, if_pos hx, List.modify_zero_cons]
      rw [fileOf, hg, fileOf, fileOf, hx]
      by_cases hs : s = a
      · subst hs; simp
      · rw [if_neg (fun e => hs e.symm), if_neg hs, if_neg (fun e => hs e.symm)]
    · rw [fileOf, if_neg hx] at h
      have h2 : ¬ less a x.name = true := fun h2 => by
        rw [look_ahead (fun f hf => less_trans h2 (hp.1 f hf))] at h
        cases h
      rw [place, if_neg hx, if_neg h2, List.modify_succ_cons]
      rw [fileOf, fileOf, fileOf, if_neg hx, look_modify s g hg hp.2 h]
      by_cases hs : s = a
      · subst hs
        rw [if_neg hx, if_pos rfl, if_pos rfl]
      · rw [if_neg hs, if_neg hs]
theorem names_modify (g : DFile → DFile) (hg : ∀ f, (g f).name = f.name) : ∀ (l : List DFile) (i : Nat), (l.modify i g).map (·.name) = l.map (·.name)
  | [], i => by cases i <;> rfl
  | x :: r, 0 => by simp [hg]
  | x :: r, i + 1 => by simp [names_modify g hg r i]
theorem good_sync {name : List UInt8} {d : DSt} (h : DkSpec.Good d) : DkSpec.Good (sync name d).2 := by
  unfold sync
  split
  · exact h
  · split
    · exact ⟨by rw [stepped_files]; exact h.1, by rw [stepped_files]; exact h.2⟩
    · refine ⟨?_, fun f hf => ?_⟩
      · have hm : (d.files.map (·.name)).Pairwise (fun a b => less a b = true) := List.pairwise_map.2 h.1
        rw [← names_modify (fun f => { f with synced := f.data.length }) (fun _ => rfl) d.files (place name d.files).1] at hm
        exact List.pairwise_map.1 hm
      · obtain ⟨i, hi⟩ := List.mem_iff_getElem?.1 hf
        rw [List.getElem?_modify] at hi
        simp only [Option.map_eq_map, Option.map_eq_some_iff] at hi
        obtain ⟨x, hx, rfl⟩ := hi
        have := h.2 x (List.mem_of_getElem? hx)
        split
        · exact ⟨this.1, Nat.le_refl _⟩
        · exact this

/-- The names, sorted. -/
theorem less_lt : ∀ a b : List UInt8, less a b = true ↔ a < b
  | a, [] => by cases a <;> simp [less]
  | [], _ :: _ => by simp [less]
  | x :: r, y :: s => by
    rw [List.cons_lt_cons_iff, ← less_lt r s]
    simp only [less, Bool.or_eq_true, decide_eq_true_eq, Bool.and_eq_true, beq_iff_eq]
    rw [UInt8.lt_iff_toNat_lt, ← UInt8.toNat_inj]
theorem sorted_names {l : List DFile} (h : Rises l) {ss : List (List UInt8)} (hp : ss.Perm (l.map (·.name))) : ss.mergeSort leB = l.map (·.name) := by
  have tr : ∀ a b c : List UInt8, leB a b = true → leB b c = true → leB a c = true := fun a b c h1 h2 => by simp only [leB, decide_eq_true_eq] at *; exact List.le_trans h1 h2
  have to : ∀ a b : List UInt8, (leB a b || leB b a) = true := fun a b => by simp only [leB, Bool.or_eq_true, decide_eq_true_eq]; exact List.le_total a b
  refine List.Perm.eq_of_pairwise (le := fun a b => leB a b = true) (fun a b _ _ h1 h2 => ?_) (List.pairwise_mergeSort tr to ss) ?_ ((List.mergeSort_perm ss leB).trans hp)
  · simp only [leB, decide_eq_true_eq] at h1 h2
    exact List.le_antisymm h1 h2
  · refine List.pairwise_map.2 (h.imp fun {f g} hl => ?_)
    simp only [leB, decide_eq_true_eq]
    exact List.le_of_lt ((less_lt _ _).1 hl)
theorem names_nodup {l : List DFile} (h : Rises l) : (l.map (·.name)).Nodup := by
  refine List.pairwise_map.2 (h.imp fun {f g} hl e => ?_)
  rw [e, less_irrefl] at hl
  cases hl
theorem mem_names {l : List DFile} {s : List UInt8} : s ∈ l.map (·.name) ↔ (fileOf s l).isSome = true := by
  induction l with
  | nil => simp [fileOf]
  | cons g r ih =>
    rw [List.map_cons, List.mem_cons, fileOf, ih]
    by_cases h : g.name = s
    · simp [h]
    · rw [if_neg h]
      constructor
      · rintro (e | e)
        · exact absurd e.symm h
        · exact e
      · exact .inr
end Go.Proofs.YtjninegpaoblfaaGreatDoor.PdLook

namespace Go.Proofs.YtjninegpaoblfaaGreatDoor.PdName
open Go Go.RowKit Words DkSpec RefName

set_option maxHeartbeats 800000 in
theorem byte_any (c : UInt8) (w : World) : Calls Tryz.prog 82 #[.int .u8 (c.toNat : Int)] w fun e w' => e = .returned (.bool (nameByte c)) ∧ w = w' := by
  have hx := c.toNat_lt
  have HB := Lib.hid (nameByte_is c)
  generalize nameByte c = r at *
  generalize c.toNat = n at *
  go_enter Tryz.func82, Tryz.ntmps82
  go_wp2
  all_goals
    go_ret
    refine ⟨congrArg (fun b => Ending.returned (Value.bool b)) ?_, rfl⟩
    rw [HB.out, Bool.eq_iff_iff]
    simp
    omega

def Rel (S : ByteArray) (i : Value) : Prop := ∃ k : Nat, k ≤ S.size ∧ i = .int .i64 (k : Int) ∧ Hid ((S.data.toList.take k).all nameByte = true)

theorem all_no {S : ByteArray} {k : Nat} (h : k < S.size) (hx : nameByte S[k] = false) : nameOk S.data.toList = false := by
  have hsz : S.data.toList.length = S.size := by simp
  unfold nameOk
  have : S.data.toList.all nameByte = false := by
    rw [List.all_eq_false]
    exact ⟨S[k], Array.mem_toList_iff.2 (Array.getElem_mem _), by simp [hx]⟩
  rw [this, Bool.and_false]
theorem all_more {S : ByteArray} {k : Nat} (h : k < S.size) (hb : (S.data.toList.take k).all nameByte = true) (hx : nameByte S[k] = true) : (S.data.toList.take (k + 1)).all nameByte = true := by
  have hsz : S.data.toList.length = S.size := by simp
  have e : S.data.toList.take (k + 1) = S.data.toList.take k ++ [S[k]] := by
    rw [List.take_succ_eq_append_getElem (by omega)]
    rfl
  rw [e, List.all_append, hb]
  simp [hx]

set_option maxHeartbeats 800000 in
set_option maxRecDepth 100000 in
theorem name_any (S : ByteArray) (w : World) (hS : S.size ≤ maxLen) :
    Calls Tryz.prog 67 #[.string S] w fun e w' => e = .returned (.bool (nameOk S.data.toList)) ∧ w = w' := by
  unfold maxLen at hS
  have hsz : S.data.toList.length = S.size := by simp
  by_cases h0 : S.size = 0
  · have HF : Hid (nameOk S.data.toList = false) := Lib.hid (by unfold nameOk; rw [hsz, h0]; rfl)
    have d1 : ((S.size : Int) == 0) = true := by simp [h0]
    clear hsz h0
    go_enter Tryz.func67, Tryz.ntmps67
    go_wp2
    go_ret
    exact ⟨by rw [HF.out]; rfl, rfl⟩
  · have d1 : ((S.size : Int) == 0) = false := beq_eq_false_iff_ne.2 (by omega)
    by_cases h1 : 32 < S.size
    · have HF : Hid (nameOk S.data.toList = false) := Lib.hid (by unfold nameOk; rw [hsz, show decide (S.size ≤ 32) = false from decide_eq_false (by omega)]; simp)
      have d2 : decide (32 < (S.size : Int)) = true := by simp; omega
      clear hsz h0 h1
      go_enter Tryz.func67, Tryz.ntmps67
      go_wp2
      go_ret
      exact ⟨by rw [HF.out]; rfl, rfl⟩
    · have d2 : decide (32 < (S.size : Int)) = false := by simp; omega
      have HE : Hid ((S.data.toList.take S.size).all nameByte = true → nameOk S.data.toList = true) := Lib.hid (fun h => by
        rw [← hsz, List.take_length] at h
        unfold nameOk
        rw [hsz, h, show decide (1 ≤ S.size) = true from decide_eq_true (by omega), show decide (S.size ≤ 32) = true from decide_eq_true (by omega)]
        rfl)
      clear hsz h0 h1
      go_enter Tryz.func67, Tryz.ntmps67
      go_wp2
      go_loop [14] (fun i => Rel S i) (fun i => S.size - (intOf i).toNat)
      case atStart => exact ⟨0, by omega, rfl, Lib.hid rfl⟩
      case round =>
        obtain ⟨k, hk, rfl, hb⟩ := hrel
        by_cases hlt : k < S.size
        · have HC := fun w => Lib.hid (byte_any S[k] w)
          have HN := Lib.hid (all_no hlt)
          have HM := Lib.hid (all_more hlt hb.out)
          clear hb
          generalize nameByte S[k] = b at *
          cases b with
          | true =>
            go_wp2_with fail
            refine (HC _).out.mono ?_
            rintro e w1 ⟨rfl, rfl⟩
            go_wp2
            go_round
            case rel => exact ⟨k + 1, by omega, by go_num, Lib.hid (HM.out trivial)⟩
            case measure => simp [intOf]; omega
          | false =>
            go_wp2_with fail
            refine (HC _).out.mono ?_
            rintro e w1 ⟨rfl, rfl⟩
            go_wp2
            go_ret
            exact ⟨by rw [HN.out trivial]; rfl, rfl⟩
        · have hkn : k = S.size := by omega
          subst hkn
          have HF := Lib.hid (HE.out hb.out)
          clear hb
          go_wp2
          go_ret
          exact ⟨by rw [HF.out]; rfl, rfl⟩
theorem name_list (l : List UInt8) (w : World) (hl : l.length ≤ maxLen) : Calls Tryz.prog 67 #[.string ⟨l.toArray⟩] w fun e w' => e = .returned (.bool (nameOk l)) ∧ w = w' := by
  have h := name_any ⟨l.toArray⟩ w (by show l.toArray.size ≤ _; simpa using hl)
  simpa using h
end Go.Proofs.YtjninegpaoblfaaGreatDoor.PdName

