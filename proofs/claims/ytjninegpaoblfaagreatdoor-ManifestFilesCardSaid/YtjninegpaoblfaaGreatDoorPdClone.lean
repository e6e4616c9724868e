/- The contract of Clone. Conditions: the disk lies in memory as 'PDisk' says; a file's bytes are at most 2^47; at most 10^9 files. -/
import Derived.Test.YtjninegpaoblfaaGreatDoorPdSt
import Derived.Maps.RangeWalk
namespace Go.Proofs.YtjninegpaoblfaaGreatDoor.PdClone
open Go Go.RowKit Go.Maps Words DkSpec PdLook RefDisk PdDisk PdChange PdOps PdSync PdRen PdRead PdList PdApp PdRes PdSt

theorem run_makeMapN (w : World) (n : Int) : (Instr.makeMap 58 (some (.int .i64 n))).run Tryz.prog w = .ok (.map (some w.heap.size)) (w.alloc (.map #[] 0)) := by
  simp [Instr.makeMap, run_underlying Tryz.underlying58, asInt, asIntOf, Result.andThen]

/-- The files that are done. -/
def doneF (left : Lit → Bool) (l : List DFile) : List DFile := l.filter fun f => !left (.string f.name)
theorem look_done (left : Lit → Bool) (s : List UInt8) : ∀ l : List DFile, fileOf s (doneF left l) = if left (.string s) then none else fileOf s l
  | [] => by simp [doneF, fileOf]
  | g :: r => by
    have ih := look_done left s r
    unfold doneF at ih ⊢
    rw [List.filter_cons]
    by_cases hg : left (.string g.name) = true
    · rw [hg]
      simp only [Bool.not_true, Bool.false_eq_true, if_false]
      rw [ih, fileOf]
      by_cases e : g.name = s
      · rw [← e, hg]; simp
      · rw [if_neg e]
    · have hg' : left (.string g.name) = false := by simpa using hg
      rw [hg']
      simp only [Bool.not_false, if_true]
      rw [fileOf, fileOf, ih]
      by_cases e : g.name = s
      · rw [if_pos e, if_pos e, ← e, hg']; simp
      · rw [if_neg e, if_neg e]
theorem good_done (left : Lit → Bool) {d : DSt} (h : DkSpec.Good d) : DkSpec.Good { d with files := doneF left d.files } := ⟨h.1.sublist List.filter_sublist, fun f hf => h.2 f (List.mem_filter.1 hf).1⟩
theorem done_all {left : Lit → Bool} (h : ∀ kl, left kl = false) (l : List DFile) : doneF left l = l := by
  unfold doneF
  exact List.filter_eq_self.2 fun f _ => by simp [h]
theorem done_none {D : DataW Unit} {l : List DFile} (h : ∀ s, Maps.has D (.string s) = (fileOf s l).isSome) (hr : Rises l) : doneF (Maps.has D) l = [] := by
  unfold doneF
  exact List.filter_eq_nil_iff.2 fun f hf => by simp [h, look_mem hr hf]

def mkV : Option Nat → Value
  | none => .pointer none
  | some g => ptr g
theorem invK (key : Value) (kl : Lit) (h : keyOf Tryz.prog 9 key = some kl) : ∃ x : List UInt8, key = S8 x := by
  obtain ⟨x, hx, _, _⟩ := Maps.keyOf_str Tryz.underlying9 h
  exact ⟨x, hx⟩
theorem invV (v : Value) (y : DataW Unit × List MemPlace) (h : ptrR v = some y) : ∃ c : Option Nat, v = mkV c := by
  unfold ptrR at h
  split at h
  · exact ⟨none, rfl⟩
  · rename_i a
    split at h
    · rename_i ha
      exact ⟨some a.block, congrArg (fun z => Value.pointer (some z)) ha⟩
    · cases h
  · cases h
/-- New blocks are the new disk's, but for the iterator. -/
def ext2 (K : Nat → Nat) (n o r : Nat) : Nat → Nat := fun b => if b < n then K b else if b = r then o + 1 else o
theorem ext2_old {K : Nat → Nat} {n o r i : Nat} (h : i < n) : ext2 K n o r i = K i := by unfold ext2; rw [if_pos h]
theorem ext2_new {K : Nat → Nat} {n o r i : Nat} (h : n ≤ i) (h2 : i ≠ r) : ext2 K n o r i = o := by unfold ext2; rw [if_neg (by omega), if_neg h2]
theorem ext2_ne {K : Nat → Nat} {n o r i : Nat} (h : ext2 K n o r i = o) (hr : n ≤ r) : i ≠ r := fun e => by
  unfold ext2 at h
  rw [if_neg (by omega), if_pos e] at h
  omega
theorem same_str (a b : List UInt8) : (Lit.string a).sameKey (.string b) = decide (a = b) := by
  rw [Bool.eq_iff_iff]
  simp [Lit.sameKey]
theorem look_step (left : Lit → Bool) (x : List UInt8) (f : DFile) (l : List DFile) (hf : fileOf x l = some f) (s : List UInt8) : fileOf s (doneF (fun z => left z && !z.sameKey (.string x)) l) = if s = x then some f else fileOf s (doneF left l) := by
  rw [look_done, look_done]
  simp only [same_str]
  by_cases e : s = x
  · subst e
    simp [hf]
  · simp [e]
/-- The loop. -/
def RelC (w : World) (K : Nat → Nat) (o2 bc M M2 r n : Nat) (D : DataW Unit) (L : Int) (d : DSt) (wr : World) : Prop := ∃ (left : Lit → Bool) (cnt : Nat), wr.ranges Tryz.prog 9 ptrR M r n D left cnt ∧ Hid (Below w.heap.size w wr) ∧
  Hid (∃ D2 G2 Q2, PAt wr (ext2 K w.heap.size o2 r) o2 bc M2 D2 L G2 Q2 { d with files := doneF left d.files })

/-- What a round reads. -/
def Cs (w w' : World) (G : List UInt8 → Nat) (x : List UInt8) (f : DFile) (A : Option Addr) (c : Nat) : Prop :=
  w'.cell? ⟨w.heap.size, 0, none⟩ = some (.map (some (w.heap.size + 1))) ∧ w'.cell? ⟨G x, 0, none⟩ = some (.slice A f.data.length c) ∧ w'.cell? ⟨G x, 1, none⟩ = some (.int .i64 (f.synced : Int))
theorem cs_of {w w' : World} {K K2 : Nat → Nat} {o o2 p M : Nat} {D D2 : DataW Unit} {L L2 : Int} {G G2 : List UInt8 → Nat} {Q Q2 : List UInt8 → Value} {d d2 : DSt} {x : List UInt8} {f : DFile} {A : Option Addr} {c : Nat}
    (h : PAt w' K o p M D L G Q d) (hf : fileOf x d.files = some f) (hv : Q x = .slice A f.data.length c) (h2 : PAt w' K2 o2 w.heap.size (w.heap.size + 1) D2 L2 G2 Q2 d2) : Cs w w' G x f A c := by
  obtain ⟨_, hfile⟩ := h.at_ x f hf
  obtain ⟨k0, k1, _⟩ := FileAt.cells hfile
  rw [hv] at k0
  exact ⟨(PAt.cells h2).1, k0, k1⟩
end Go.Proofs.YtjninegpaoblfaaGreatDoor.PdClone
