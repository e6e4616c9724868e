/- The contract of the document's own Name: whether a text is a file's name, as 'DkSpec.nameOk' says; the world stands. Condition: the text's length is at most the model's greatest. · The document's own disk in memory ('RefD'), and the contract of its 'find': memory is only read. Conditions: the disk lies in memory as 'RefD' says. · The contract of the document's own 'change': whether a change is refused, and its count. Conditions: the disk lies in memory as 'RefD' says; the names' lengths are at most the model's greatest. · The document's own disk: its files as one list of cells, and the contract of its 'take' (a file away). Conditions: the disk lies in memory as 'RefD' says; the place is a file's. · The contract of the document's own 'take' (a file away). Conditions: the disk lies in memory as 'RefD' says; the place is a file's; at most 10^9 files. · The contract of the document's own 'put' (a file at its place, the one of its name gone). Conditions: the disk lies in memory as 'RefD' says; the file's bytes are of nobody's; at most 10^9 files. · The contracts of the document's own Delete, Sync, Fill and Arm. Conditions: the disk lies in memory as 'RefD' says; the names' lengths are at most the model's greatest; at most 10^9 files. · The contract of the document's own Sync. Conditions: the disk lies in memory as 'RefD' says; the name's length is at most the model's greatest. · The contract of the document's own Rename. Conditions: the disk lies in memory as 'RefD' says; the names' lengths are at most the model's greatest; at most 10^9 files. · The contract of the document's own New. Conditions: none. · The contract of the document's own Clone. -/
import Derived.Test.YtjninegpaoblfaaDoorRows
import Derived.Test.YtjninegpaoblfaaDoorWords
import Derived.Test.YtjninegpaoblfaaDoorDkSpec
import Derived.WalkKit
import Derived.LoopTactic
import Derived.Lib.Hide
import Derived.Outline
import Derived.Test.YtjninegpaoblfaaDoorAppendN
import Derived.OwnWalk
import Derived.BigRegion
import Derived.StillTailTactics
import Derived.Deep.RegionWith
import Derived.Deep.RegionLaw
namespace Go.Proofs.YtjninegpaoblfaaDoor.RefName
open Go Go.RowKit Words DkSpec

def bl (n : Nat) : Bool := decide (1 ≤ n) && decide (n ≤ 32)
theorem nameByte_is (c : UInt8) : nameByte c = ((c.toNat == 46 || c.toNat == 45) || (decide (48 ≤ c.toNat) && decide (c.toNat ≤ 57)) || (decide (97 ≤ c.toNat) && decide (c.toNat ≤ 122))) := by
  simp [nameByte]
def Rel (S : ByteArray) (ok i : Value) : Prop := ∃ (k : Nat) (b : Bool), k ≤ S.size ∧ i = .int .i64 (k : Int) ∧ ok = .bool b ∧ Hid (b = (bl S.size && (S.data.toList.take k).all nameByte))

theorem all_step {S : ByteArray} {k : Nat} (h : k < S.size) {b b' : Bool} (hb : b = (bl S.size && (S.data.toList.take k).all nameByte)) (ht : b = true) (hx : b' = nameByte S[k]) : b' = (bl S.size && (S.data.toList.take (k + 1)).all nameByte) := by
  have hsz : S.data.toList.length = S.size := by simp
  have e : S.data.toList.take (k + 1) = S.data.toList.take k ++ [S[k]] := by
    rw [List.take_succ_eq_append_getElem (by omega)]
    rfl
  rw [e, List.all_append]
  have h2 := hb.symm.trans ht
  rw [Bool.and_eq_true] at h2
  rw [h2.1, h2.2, hx]
  simp

theorem fin_all {S : ByteArray} {k : Nat} {b : Bool} (hb : b = (bl S.size && (S.data.toList.take k).all nameByte)) (h : k = S.size ∨ b = false) : b = nameOk S.data.toList := by
  have hsz : S.data.toList.length = S.size := by simp
  unfold nameOk
  rw [hsz]
  show b = (bl S.size && S.data.toList.all nameByte)
  rcases h with h | h
  · rw [hb, h, ← hsz, List.take_length]
  · subst h
    cases h1 : bl S.size with
    | false => rfl
    | true =>
      rw [h1, Bool.true_and] at hb
      rw [Bool.true_and]
      cases h2 : S.data.toList.all nameByte with
      | false => rfl
      | true =>
        exfalso
        have h3 : (S.data.toList.take k).all nameByte = true := List.all_eq_true.2 fun x hx => List.all_eq_true.1 h2 x (List.mem_of_mem_take hx)
        rw [h3] at hb
        cases hb

end Go.Proofs.YtjninegpaoblfaaDoor.RefName

namespace Go.Proofs.YtjninegpaoblfaaDoor.RefDisk
open Go Go.RowKit Words DkSpec

def S8 (l : List UInt8) : Value := .string ⟨l.toArray⟩
/-- The files, one behind the other, three cells each. 'K' tells whose a block is: 0 of bytes that nobody writes again, o of the disk o. -/
def FRow (w : World) (K : Nat → Nat) (o : Nat) (A : Option Addr) (l : List DFile) : Prop := 0 < l.length → ∃ g off, A = some ⟨g, off, none⟩ ∧ g < w.heap.size ∧ K g = o ∧ (∀ j, w.frozen? ⟨g, j, none⟩ = false) ∧ ∀ i f, l[i]? = some f →
  w.cell? ⟨g, off + i * 3, none⟩ = some (S8 f.name) ∧ (∃ A' c', w.cell? ⟨g, off + i * 3 + 1, none⟩ = some (.slice A' f.data.length c') ∧ f.data.length ≤ c' ∧ c' ≤ maxLen ∧ Rd w w.heap.size A' (f.data.map B8) ∧ (∀ b off', A' = some ⟨b, off', none⟩ → 0 < f.data.length → K b = 0)) ∧
  w.cell? ⟨g, off + i * 3 + 2, none⟩ = some (.int .i64 (f.synced : Int))
/-- A disk at a block. -/
def RefD (w : World) (K : Nat → Nat) (o p : Nat) (d : DSt) : Prop := ∃ A c, d.files.length ≤ c ∧ c ≤ maxLen ∧ p < w.heap.size ∧ K p = o ∧ w.cell? ⟨p, 0, none⟩ = some (.slice A d.files.length c) ∧ w.cell? ⟨p, 1, none⟩ = some (.bool d.full) ∧ w.cell? ⟨p, 2, none⟩ = some (.bool d.off) ∧ w.cell? ⟨p, 3, none⟩ = some (.int .i64 d.left) ∧
  w.frozen? ⟨p, 0, none⟩ = false ∧ w.frozen? ⟨p, 1, none⟩ = false ∧ w.frozen? ⟨p, 2, none⟩ = false ∧ w.frozen? ⟨p, 3, none⟩ = false ∧ (∀ b off, A = some ⟨b, off, none⟩ → b ≠ p) ∧ FRow w K o A d.files
/-- Only the disk o's blocks have changed, and new ones have come. -/
structure Turned (K K' : Nat → Nat) (o : Nat) (w w' : World) : Prop where
  os : w'.os = w.os
  tape : w'.tape = w.tape
  output : w'.output = w.output
  size : w.heap.size ≤ w'.heap.size
  block : ∀ i, i < w.heap.size → K i ≠ o → w'.heap[i]? = w.heap[i]?
  kind : ∀ i, i < w.heap.size → K' i = K i

theorem less_is : ∀ a b : List UInt8, Op.bytesLess a b = less a b
  | _, [] => by cases ‹List UInt8› <;> rfl
  | [], _ :: _ => rfl
  | a :: x, b :: y => by
    rw [Op.bytesLess, less, less_is x y]
    have h1 : (a == b) = (a.toNat == b.toNat) := by
      rw [Bool.eq_iff_iff, beq_iff_eq, beq_iff_eq]
      exact UInt8.toNat_inj.symm
    rw [h1]
    rfl
theorem less_asymm {a b : List UInt8} (h : less a b = true) : less b a = false := by
  cases h2 : less b a with
  | false => rfl
  | true => have := less_trans h h2; rw [less_irrefl] at this; cases this
/-- 'f > name'. -/
theorem gtr_is (a b : List UInt8) : (!(less a b || a == b)) = less b a := by
  by_cases h : a = b
  · subst h; simp [less_irrefl]
  · rcases less_total h with h1 | h1
    · rw [h1, less_asymm h1]; rfl
    · rw [h1, less_asymm h1]; simp [h]

theorem run_gtr (w : World) (a b : List UInt8) (x : Bool) (h : less b a = x) : (binOp .gtr 9 (.string ⟨a.toArray⟩) (.string ⟨b.toArray⟩)).run Tryd.prog w = .ok (.bool x) w := by
  show Result.ok (Value.bool (!(Op.bytesLess (ByteArray.toList ⟨a.toArray⟩) (ByteArray.toList ⟨b.toArray⟩) || ByteArray.toList ⟨a.toArray⟩ == ByteArray.toList ⟨b.toArray⟩))) w = _
  rw [ByteArray.toList_mk, ByteArray.toList_mk, less_is, gtr_is, h]
/-- The loop: the first k names come ahead. -/
def Rel (name : List UInt8) (l : List DFile) (i : Value) : Prop := ∃ k : Nat, k ≤ l.length ∧ i = .int .i64 (k : Int) ∧ Hid (place name l = (k + (place name (l.drop k)).1, (place name (l.drop k)).2))

theorem cell_of {w w' : World} {b off : Nat} (h : w'.heap[b]? = w.heap[b]?) : w'.cell? ⟨b, off, none⟩ = w.cell? ⟨b, off, none⟩ := World.cell?_of_block h
theorem Turned.refl (K : Nat → Nat) (o : Nat) (w : World) : Turned K K o w w := ⟨rfl, rfl, rfl, Nat.le_refl _, fun _ _ _ => rfl, fun _ _ => rfl⟩
theorem Turned.trans {K K' K'' : Nat → Nat} {o : Nat} {w w' w'' : World} (h : Turned K K' o w w') (h' : Turned K' K'' o w' w'') : Turned K K'' o w w'' :=
  ⟨h'.os.trans h.os, h'.tape.trans h.tape, h'.output.trans h.output, Nat.le_trans h.size h'.size,
    fun i hi hk => (h'.block i (by have := h.size; omega) (by rw [h.kind i hi]; exact hk)).trans (h.block i hi hk),
    fun i hi => (h'.kind i (by have := h.size; omega)).trans (h.kind i hi)⟩
/-- Bytes that nobody writes again stay. -/
theorem rd_turned {K K' : Nat → Nat} {o : Nat} {w w' : World} {A : Option Addr} {vs : List Value} (h : Turned K K' o w w') (ho : o ≠ 0) (hr : Rd w w.heap.size A vs) (hk : ∀ b off, A = some ⟨b, off, none⟩ → 0 < vs.length → K b = 0) : Rd w' w'.heap.size A vs := fun hn => by
  obtain ⟨b, off, e, hb, hc⟩ := hr hn
  refine ⟨b, off, e, Nat.lt_of_lt_of_le hb h.size, fun j u hu => ?_⟩
  rw [cell_of (h.block b hb (by rw [hk b off e hn]; exact fun e => ho e.symm))]
  exact hc j u hu
/-- Another disk stays. -/
theorem RefD.turned {K K' : Nat → Nat} {o o2 p : Nat} {w w' : World} {d : DSt} (hd : RefD w K o2 p d) (h : Turned K K' o w w') (ho : o ≠ 0) (h2 : o2 ≠ o) : RefD w' K' o2 p d := by
  obtain ⟨A, c, hc, hm, hp, hk, c0, c1, c2, c3, f0, f1, f2, f3, hA, hf⟩ := hd
  have hb := h.block p hp (by rw [hk]; exact h2)
  have hfz : ∀ j, w'.frozen? ⟨p, j, none⟩ = w.frozen? ⟨p, j, none⟩ := fun j => by unfold World.frozen?; rw [hb]
  refine ⟨A, c, hc, hm, Nat.lt_of_lt_of_le hp h.size, (h.kind p hp).trans hk, (cell_of hb).trans c0, (cell_of hb).trans c1, (cell_of hb).trans c2, (cell_of hb).trans c3, (hfz 0).trans f0, (hfz 1).trans f1, (hfz 2).trans f2, (hfz 3).trans f3, hA, fun hn => ?_⟩
  obtain ⟨g, off, e, hg, hkg, hgz, hcell⟩ := hf hn
  have hbg := h.block g hg (by rw [hkg]; exact h2)
  refine ⟨g, off, e, Nat.lt_of_lt_of_le hg h.size, (h.kind g hg).trans hkg, fun j => by rw [← hgz j]; unfold World.frozen?; rw [hbg], fun i f hi => ?_⟩
  obtain ⟨k0, ⟨A', c', k1, k1a, k1b, k1c, k1d⟩, k2⟩ := hcell i f hi
  refine ⟨(cell_of hbg).trans k0, ⟨A', c', (cell_of hbg).trans k1, k1a, k1b, rd_turned h ho k1c (by simpa using k1d), fun b off' e' hl => ?_⟩, (cell_of hbg).trans k2⟩
  obtain ⟨b2, off2, e2, hb2, _⟩ := k1c (by simpa using hl)
  rw [e'] at e2
  injection e2 with e2
  injection e2 with e2
  subst e2
  exact (h.kind b hb2).trans (k1d b off' e' hl)
end Go.Proofs.YtjninegpaoblfaaDoor.RefDisk

namespace Go.Proofs.YtjninegpaoblfaaDoor.RefChange
open Go Go.RowKit Words DkSpec RefName RefDisk

theorem FRow.poke {w : World} {K : Nat → Nat} {o p j : Nat} {u : Value} {A : Option Addr} {l : List DFile} (h : FRow w K o A l) (hA : ∀ b off, A = some ⟨b, off, none⟩ → b ≠ p) (hp : K p = o) (ho : o ≠ 0) : FRow (w.setCell ⟨p, j, none⟩ u) K o A l := fun hn => by
  obtain ⟨g, off, e, hg, hk, hgz, hcell⟩ := h hn
  have hgp := hA g off e
  have ne : ∀ (b i : Nat), b ≠ p → (w.setCell ⟨p, j, none⟩ u).cell? ⟨b, i, none⟩ = w.cell? ⟨b, i, none⟩ := fun b i hb => World.cell?_setCell_other w _ _ u (fun e => hb (by injection e with e; exact e.symm))
  refine ⟨g, off, e, by simpa using hg, hk, fun j' => by rw [World.frozen?_setCell]; exact hgz j', fun i f hi => ?_⟩
  obtain ⟨k0, ⟨A', c', k1, k1a, k1b, k1c, k1d⟩, k2⟩ := hcell i f hi
  refine ⟨(ne _ _ hgp).trans k0, ⟨A', c', (ne _ _ hgp).trans k1, k1a, k1b, fun hl => ?_, k1d⟩, (ne _ _ hgp).trans k2⟩
  obtain ⟨b2, off2, e2, hb2, hc2⟩ := k1c hl
  refine ⟨b2, off2, e2, by simpa using hb2, fun j' u' hu => (ne _ _ ?_).trans (hc2 j' u' hu)⟩
  have h0 := k1d b2 off2 e2 (by simpa using hl)
  intro e
  rw [e, hp] at h0
  exact ho h0
theorem turned_poke {w : World} {K : Nat → Nat} {o p j : Nat} {u : Value} (hp : K p = o) : Turned K K o w (w.setCell ⟨p, j, none⟩ u) := by
  refine ⟨rfl, rfl, rfl, by simp, fun i hi hk => ?_, fun _ _ => rfl⟩
  have hne : i ≠ p := fun e => hk (by rw [e]; exact hp)
  simp [World.setCell, Array.getElem?_modify, hne.symm]
section
variable {w : World} {K : Nat → Nat} {o p : Nat} {d : DSt}
theorem RefD.left (h : RefD w K o p d) (ho : o ≠ 0) (n : Int) : RefD (w.setCell ⟨p, 3, none⟩ (.int .i64 n)) K o p { d with left := n } := by
  obtain ⟨A, c, hc, hm, hp, hk, c0, c1, c2, c3, f0, f1, f2, f3, hA, hf⟩ := h
  refine ⟨A, c, hc, hm, by simpa using hp, hk, ?_, ?_, ?_, ?_, ?_, ?_, ?_, ?_, hA, RefChange.FRow.poke hf hA hk ho⟩
  · rw [World.cell?_setCell_other _ _ _ _ (by simp)]; exact c0
  · rw [World.cell?_setCell_other _ _ _ _ (by simp)]; exact c1
  · rw [World.cell?_setCell_other _ _ _ _ (by simp)]; exact c2
  · exact World.cell?_setCell_same _ _ _ c3
  all_goals rw [World.frozen?_setCell]; assumption
theorem RefD.toOff (h : RefD w K o p d) (ho : o ≠ 0) (b : Bool) : RefD (w.setCell ⟨p, 2, none⟩ (.bool b)) K o p { d with off := b } := by
  obtain ⟨A, c, hc, hm, hp, hk, c0, c1, c2, c3, f0, f1, f2, f3, hA, hf⟩ := h
  refine ⟨A, c, hc, hm, by simpa using hp, hk, ?_, ?_, ?_, ?_, ?_, ?_, ?_, ?_, hA, RefChange.FRow.poke hf hA hk ho⟩
  · rw [World.cell?_setCell_other _ _ _ _ (by simp)]; exact c0
  · rw [World.cell?_setCell_other _ _ _ _ (by simp)]; exact c1
  · exact World.cell?_setCell_same _ _ _ c2
  · rw [World.cell?_setCell_other _ _ _ _ (by simp)]; exact c3
  all_goals rw [World.frozen?_setCell]; assumption
theorem RefD.toFull (h : RefD w K o p d) (ho : o ≠ 0) (b : Bool) : RefD (w.setCell ⟨p, 1, none⟩ (.bool b)) K o p { d with full := b } := by
  obtain ⟨A, c, hc, hm, hp, hk, c0, c1, c2, c3, f0, f1, f2, f3, hA, hf⟩ := h
  refine ⟨A, c, hc, hm, by simpa using hp, hk, ?_, ?_, ?_, ?_, ?_, ?_, ?_, ?_, hA, RefChange.FRow.poke hf hA hk ho⟩
  · rw [World.cell?_setCell_other _ _ _ _ (by simp)]; exact c0
  · exact World.cell?_setCell_same _ _ _ c1
  · rw [World.cell?_setCell_other _ _ _ _ (by simp)]; exact c2
  · rw [World.cell?_setCell_other _ _ _ _ (by simp)]; exact c3
  all_goals rw [World.frozen?_setCell]; assumption
end

/-- What 'change' answers and leaves. -/
def ChPost (w : World) (K : Nat → Nat) (o p : Nat) (d : DSt) (a b : List UInt8) (e : Ending) (w' : World) : Prop :=
  e = .returned (.int .i64 (refused a b d : Int)) ∧ RefD w' K o p (if refused a b d ≠ 0 then d else stepped d) ∧ Turned K K o w w'
theorem RefD.world {w : World} {K : Nat → Nat} {o p : Nat} {d d' : DSt} (h : RefD w K o p d) (e : d = d') : RefD w K o p d' := e ▸ h

section
end
end Go.Proofs.YtjninegpaoblfaaDoor.RefChange

namespace Go.Proofs.YtjninegpaoblfaaDoor.RefRow
open Go Go.RowKit Words DkSpec RefDisk RefChange AppN

/-- The cells of a list of files. -/
inductive FCells (w : World) (K : Nat → Nat) : List DFile → List Value → Prop
  | nil : FCells w K [] []
  | cons {f : DFile} {l : List DFile} {cs : List Value} {A : Option Addr} {c : Nat} (hc : f.data.length ≤ c) (hm : c ≤ maxLen) (hr : Rd w w.heap.size A (f.data.map B8)) (hk : ∀ b off, A = some ⟨b, off, none⟩ → 0 < f.data.length → K b = 0) (h : FCells w K l cs) :
      FCells w K (f :: l) (S8 f.name :: .slice A f.data.length c :: .int .i64 (f.synced : Int) :: cs)
section
variable {w : World} {K : Nat → Nat}
theorem FCells.length {l : List DFile} {cs : List Value} (h : FCells w K l cs) : cs.length = l.length * 3 := by
  induction h with
  | nil => rfl
  | cons _ _ _ _ _ ih => simp only [List.length_cons, ih]; omega
theorem FCells.append {l l' : List DFile} {cs cs' : List Value} (h : FCells w K l cs) (h' : FCells w K l' cs') : FCells w K (l ++ l') (cs ++ cs') := by
  induction h with
  | nil => exact h'
  | cons a b c d _ ih => exact .cons a b c d ih
theorem FCells.take {l : List DFile} {cs : List Value} (h : FCells w K l cs) : ∀ i, FCells w K (l.take i) (cs.take (i * 3)) := by
  induction h with
  | nil => intro i; simpa using FCells.nil
  | cons a b c d _ ih =>
    intro i
    cases i with
    | zero => simpa using FCells.nil
    | succ i =>
      rw [show (i + 1) * 3 = i * 3 + 1 + 1 + 1 by omega]
      exact .cons a b c d (ih i)
theorem FCells.drop {l : List DFile} {cs : List Value} (h : FCells w K l cs) : ∀ i, FCells w K (l.drop i) (cs.drop (i * 3)) := by
  induction h with
  | nil => intro i; simpa using FCells.nil
  | cons a b c d h ih =>
    intro i
    cases i with
    | zero => simpa using FCells.cons a b c d h
    | succ i =>
      rw [show (i + 1) * 3 = i * 3 + 1 + 1 + 1 by omega]
      exact ih i
theorem FCells.one {l : List DFile} {cs : List Value} (h : FCells w K l cs) : ∀ u ∈ cs, u.oneCell' = true := by
  induction h with
  | nil => intro u hu; cases hu
  | cons _ _ _ _ _ ih =>
    intro u hu
    rcases List.mem_cons.1 hu with rfl | hu
    · rfl
    rcases List.mem_cons.1 hu with rfl | hu
    · rfl
    rcases List.mem_cons.1 hu with rfl | hu
    · rfl
    exact ih u hu
/-- The cells stay while only a disk's own blocks change. -/
theorem FCells.turned {K' : Nat → Nat} {o : Nat} {w' : World} {l : List DFile} {cs : List Value} (h : FCells w K l cs) (ht : Turned K K' o w w') (ho : o ≠ 0) : FCells w' K' l cs := by
  induction h with
  | nil => exact .nil
  | cons a b c d _ ih =>
    refine .cons a b (rd_turned ht ho c (by simpa using d)) (fun b' off' e hl => ?_) ih
    obtain ⟨b2, off2, e2, hb2, _⟩ := c (by simpa using hl)
    rw [e] at e2
    injection e2 with e2
    injection e2 with e2
    subst e2
    exact (ht.kind b' hb2).trans (d b' off' e hl)
theorem FCells.at {l : List DFile} {cs : List Value} (h : FCells w K l cs) : ∀ i f, l[i]? = some f → cs[i * 3]? = some (S8 f.name) ∧ (∃ A' c', cs[i * 3 + 1]? = some (.slice A' f.data.length c') ∧ f.data.length ≤ c' ∧ c' ≤ maxLen ∧ Rd w w.heap.size A' (f.data.map B8) ∧ (∀ b off', A' = some ⟨b, off', none⟩ → 0 < f.data.length → K b = 0)) ∧ cs[i * 3 + 2]? = some (.int .i64 (f.synced : Int)) := by
  induction h with
  | nil => intro i f hi; simp at hi
  | @cons f0 l0 cs0 A c a b r d _ ih =>
    intro i f hi
    cases i with
    | zero =>
      simp only [List.getElem?_cons_zero, Option.some.injEq] at hi
      subst hi
      exact ⟨rfl, ⟨A, c, rfl, a, b, r, d⟩, rfl⟩
    | succ i =>
      simp only [List.getElem?_cons_succ] at hi
      rw [show (i + 1) * 3 = i * 3 + 1 + 1 + 1 by omega]
      exact ih i f hi
/-- A row of cells is a row of files. -/
theorem row_of {o : Nat} {A : Option Addr} {l : List DFile} {cs : List Value} (h : FCells w K l cs) (hr : Rd w w.heap.size A cs) (hk : ∀ b off, A = some ⟨b, off, none⟩ → K b = o) (hz : ∀ b off, A = some ⟨b, off, none⟩ → ∀ j, w.frozen? ⟨b, j, none⟩ = false) : FRow w K o A l := fun hn => by
  have hl := h.length
  obtain ⟨g, off, e, hg, hc⟩ := hr (by omega)
  refine ⟨g, off, e, hg, hk g off e, hz g off e, fun i f hi => ?_⟩
  obtain ⟨h0, ⟨A', c', h1, h1a, h1b, h1c, h1d⟩, h2⟩ := h.at i f hi
  exact ⟨hc _ _ h0, ⟨A', c', by rw [Nat.add_assoc]; exact hc _ _ h1, h1a, h1b, h1c, h1d⟩, by rw [Nat.add_assoc]; exact hc _ _ h2⟩
/-- And the other way round. -/
theorem row_cells {o : Nat} : ∀ (l : List DFile) {A : Option Addr}, FRow w K o A l → ∃ cs, FCells w K l cs ∧ Rd w w.heap.size A cs := by
  intro l A h
  have key : ∀ (l : List DFile) (g off : Nat), (∀ i f, l[i]? = some f → w.cell? ⟨g, off + i * 3, none⟩ = some (S8 f.name) ∧ (∃ A' c', w.cell? ⟨g, off + i * 3 + 1, none⟩ = some (.slice A' f.data.length c') ∧ f.data.length ≤ c' ∧ c' ≤ maxLen ∧ Rd w w.heap.size A' (f.data.map B8) ∧ (∀ b off', A' = some ⟨b, off', none⟩ → 0 < f.data.length → K b = 0)) ∧
      w.cell? ⟨g, off + i * 3 + 2, none⟩ = some (.int .i64 (f.synced : Int))) → ∃ cs, FCells w K l cs ∧ ∀ j u, cs[j]? = some u → w.cell? ⟨g, off + j, none⟩ = some u := by
    intro l
    induction l with
    | nil => intro g off _; exact ⟨[], .nil, fun j u hu => by simp at hu⟩
    | cons f r ih =>
      intro g off h
      obtain ⟨k0, ⟨A', c', k1, k1a, k1b, k1c, k1d⟩, k2⟩ := h 0 f rfl
      obtain ⟨cs, hcs, hcell⟩ := ih g (off + 3) (fun i f' hi => by
        have h3 := h (i + 1) f' (by simpa using hi)
        rw [show off + (i + 1) * 3 = off + 3 + i * 3 by omega] at h3
        exact h3)
      refine ⟨_, .cons k1a k1b k1c k1d hcs, fun j u hu => ?_⟩
      match j, hu with
      | 0, hu => simp at hu; subst hu; simpa using k0
      | 1, hu => simp at hu; subst hu; simpa using k1
      | 2, hu => simp at hu; subst hu; simpa using k2
      | j + 3, hu =>
        rw [show off + (j + 3) = off + 3 + j by omega]
        exact hcell j u (by simpa using hu)
  by_cases hn : 0 < l.length
  · obtain ⟨g, off, e, hg, _, _, hc⟩ := h hn
    obtain ⟨cs, h1, h2⟩ := key l g off hc
    exact ⟨cs, h1, fun _ => ⟨g, off, e, hg, h2⟩⟩
  · obtain rfl : l = [] := List.eq_nil_of_length_eq_zero (by omega)
    exact ⟨[], .nil, Rd.nil_⟩
end
end Go.Proofs.YtjninegpaoblfaaDoor.RefRow

namespace Go.Proofs.YtjninegpaoblfaaDoor.RefTake
open Go Go.RowKit Words DkSpec RefDisk RefChange RefRow AppN

def zFile : Value := .agg #[.string ByteArray.empty, .slice none 0 0, .int .i64 0]
section
variable {w w' : World} {K K' : Nat → Nat} {o p : Nat} {d : DSt}
/-- Where nothing that was there has changed. -/
theorem RefD.grow (h : RefD w K o p d) (hs : w.heap.size ≤ w'.heap.size) (hb : ∀ i, i < w.heap.size → w'.heap[i]? = w.heap[i]?) (hk : ∀ i, i < w.heap.size → K' i = K i) (h1 : w'.os = w.os) (h2 : w'.tape = w.tape) (h3 : w'.output = w.output) : RefD w' K' o p d :=
  RefD.turned h (o := o + 1) ⟨h1, h2, h3, hs, fun i hi _ => hb i hi, hk⟩ (by omega) (by omega)
/-- A new row of files. -/
theorem RefD.row (h : RefD w K o p d) (ho : o ≠ 0) {l : List DFile} {cs : List Value} {A : Option Addr} {c : Nat} (hl : FCells w K l cs) (hr : Rd w w.heap.size A cs) (hk : ∀ b off, A = some ⟨b, off, none⟩ → K b = o ∧ b ≠ p) (hz : ∀ b off, A = some ⟨b, off, none⟩ → ∀ j, w.frozen? ⟨b, j, none⟩ = false) (h1 : l.length ≤ c) (h2 : c ≤ maxLen) :
    RefD (w.setCell ⟨p, 0, none⟩ (.slice A l.length c)) K o p { d with files := l } := by
  obtain ⟨A0, c0', hc, hm, hp, hkp, c0, c1, c2, c3, f0, f1, f2, f3, hA, hf⟩ := h
  refine ⟨A, c, h1, h2, by simpa using hp, hkp, ?_, ?_, ?_, ?_, ?_, ?_, ?_, ?_, fun b off e => (hk b off e).2, RefChange.FRow.poke (row_of hl hr (fun b off e => (hk b off e).1) hz) (fun b off e => (hk b off e).2) hkp ho⟩
  · exact World.cell?_setCell_same _ _ _ c0
  · rw [World.cell?_setCell_other _ _ _ _ (by simp)]; exact c1
  · rw [World.cell?_setCell_other _ _ _ _ (by simp)]; exact c2
  · rw [World.cell?_setCell_other _ _ _ _ (by simp)]; exact c3
  all_goals rw [World.frozen?_setCell]; assumption
end

/-- A row of the call's own, as a slice that is read. -/
theorem own_rd {w : World} {base n size : Nat} {e : TypeId} {v : Value} {xs : List Value} (h : w.ownsRow base e size v n xs) : ∃ A c, v = .slice A n c ∧ n ≤ c ∧ c ≤ maxLen ∧ Rd w w.heap.size A xs ∧ (∀ b off, A = some ⟨b, off, none⟩ → base ≤ b ∧ b < w.heap.size ∧ ∀ j, w.frozen? ⟨b, j, none⟩ = false) := by
  have hl := h.1
  rcases h.2 with ⟨rfl, rfl⟩ | ⟨g, cap, cur, rfl, hb, hg, h1, h2, h3, h4⟩
  · exact ⟨none, 0, rfl, by omega, by unfold maxLen; omega, fun hp => by omega, fun b off e => by cases e⟩
  · have hgl : g < w.heap.size := (Array.getElem?_eq_some_iff.1 hg).1
    refine ⟨some ⟨g, 0, none⟩, cap, rfl, h1, h2, fun _ => ⟨g, 0, rfl, hgl, fun j u hu => ?_⟩, fun b off e => ?_⟩
    · have hc := h.cells (g := g) rfl j u hu
      rwa [add_off] at hc
    · injection e with e
      injection e with e
      subst e
      exact ⟨hb, hgl, fun j => h.frozenAt j⟩
/-- What a method without an answer leaves. -/
def MPost (w : World) (K : Nat → Nat) (o p : Nat) (d : DSt) (e : Ending) (w' : World) : Prop := e = .returned (.tuple #[]) ∧ ∃ K', RefD w' K' o p d ∧ Turned K K' o w w'

theorem rd_cut3 {w : World} {B : Nat} {A : Option Addr} {cs : List Value} {n c k : Nat} (h : Rd w B A cs) (hl : cs.length = n * 3) (hn : n ≤ c) : Rd w B (if c = k then A else A.map (·.add (k * 3))) (cs.drop (k * 3)) := fun hp => by
  rw [List.length_drop] at hp
  obtain ⟨b, off, rfl, hb, hcell⟩ := h (by omega)
  rw [if_neg (by omega)]
  refine ⟨b, off + k * 3, by simp [add_off], hb, fun j u hu => ?_⟩
  rw [List.getElem?_drop] at hu
  rw [Nat.add_assoc]
  exact hcell _ u hu

end Go.Proofs.YtjninegpaoblfaaDoor.RefTake

namespace Go.Proofs.YtjninegpaoblfaaDoor.RefPut5
open Go Go.RowKit Words DkSpec RefDisk RefChange RefRow RefTake AppN

/-- A file as a value. -/
def fcs (f : DFile) (A : Option Addr) (c : Nat) : Array Value := #[.string ⟨f.name.toArray⟩, .slice A f.data.length c, .int .i64 (f.synced : Int)]

end Go.Proofs.YtjninegpaoblfaaDoor.RefPut5

namespace Go.Proofs.YtjninegpaoblfaaDoor.RefOps5
open Go Go.RowKit Words DkSpec RefDisk RefChange RefRow RefTake RefPut5

/-- What a call answers and leaves. -/
def OPost (w : World) (K : Nat → Nat) (o p : Nat) (r : Nat × DSt) (e : Ending) (w' : World) : Prop := e = .returned (.int .i64 (r.1 : Int)) ∧ ∃ K', RefD w' K' o p r.2 ∧ Turned K K' o w w'

end Go.Proofs.YtjninegpaoblfaaDoor.RefOps5

namespace Go.Proofs.YtjninegpaoblfaaDoor.RefSync5
open Go Go.RowKit Words DkSpec RefDisk RefChange RefRow RefTake RefPut5 RefOps5

theorem FRow.synced {w : World} {K : Nat → Nat} {o g off i n : Nat} {l : List DFile} (h : FRow w K o (some ⟨g, off, none⟩) l) (hi : i < l.length) (ho : o ≠ 0) :
    FRow (w.setCell ⟨g, off + i * 3 + 2, none⟩ (.int .i64 (n : Int))) K o (some ⟨g, off, none⟩) (l.modify i fun f => { f with synced := n }) := fun hn => by
  obtain ⟨g', off', e, hg, hk, hz, hcell⟩ := h (by omega)
  injection e with e
  injection e with e1 e2
  subst e1 e2
  have ne : ∀ (b x : Nat), b ≠ g ∨ x ≠ off + i * 3 + 2 → (w.setCell ⟨g, off + i * 3 + 2, none⟩ (.int .i64 (n : Int))).cell? ⟨b, x, none⟩ = w.cell? ⟨b, x, none⟩ := fun b x hb => World.cell?_setCell_other w _ _ _ (fun e => by
    injection e with e1 e2
    rcases hb with hb | hb
    · exact hb e1.symm
    · exact hb e2.symm)
  refine ⟨g, off, rfl, by simpa using hg, hk, fun j => by rw [World.frozen?_setCell]; exact hz j, fun j f hj => ?_⟩
  have hdata : ∀ (A' : Option Addr) (vs : List Value), Rd w w.heap.size A' vs → (∀ b off', A' = some ⟨b, off', none⟩ → 0 < vs.length → K b = 0) → Rd (w.setCell ⟨g, off + i * 3 + 2, none⟩ (.int .i64 (n : Int))) (w.setCell ⟨g, off + i * 3 + 2, none⟩ (.int .i64 (n : Int))).heap.size A' vs := fun A' vs hr h0 hp => by
    obtain ⟨b2, off2, e2, hb2, hc2⟩ := hr hp
    refine ⟨b2, off2, e2, by simpa using hb2, fun j' u' hu => (ne _ _ (.inl ?_)).trans (hc2 j' u' hu)⟩
    have h1 := h0 b2 off2 e2 hp
    intro e
    rw [e, hk] at h1
    exact ho h1
  rw [List.getElem?_modify] at hj
  cases hf : l[j]? with
  | none => rw [hf] at hj; simp at hj
  | some f0 =>
    rw [hf] at hj
    obtain ⟨k0, ⟨A', c', k1, k1a, k1b, k1c, k1d⟩, k2⟩ := hcell j f0 hf
    by_cases hij : i = j
    · subst hij
      simp only [if_pos, Option.map_eq_map, Option.map_some, Option.some.injEq] at hj
      subst hj
      exact ⟨(ne _ _ (.inr (by omega))).trans k0, ⟨A', c', (ne _ _ (.inr (by omega))).trans k1, k1a, k1b, hdata _ _ k1c (by simpa using k1d), k1d⟩, World.cell?_setCell_same _ _ _ k2⟩
    · simp only [if_neg hij, Option.map_eq_map, Option.map_some, Option.some.injEq] at hj
      subst hj
      exact ⟨(ne _ _ (.inr (by omega))).trans k0, ⟨A', c', (ne _ _ (.inr (by omega))).trans k1, k1a, k1b, hdata _ _ k1c (by simpa using k1d), k1d⟩, (ne _ _ (.inr (by omega))).trans k2⟩
theorem RefD.synced {w : World} {K : Nat → Nat} {o p g off c i n : Nat} {d : DSt} (h : RefD w K o p d) (ho : o ≠ 0) (hA : w.cell? ⟨p, 0, none⟩ = some (.slice (some ⟨g, off, none⟩) d.files.length c)) (hi : i < d.files.length) :
    RefD (w.setCell ⟨g, off + i * 3 + 2, none⟩ (.int .i64 (n : Int))) K o p { d with files := d.files.modify i fun f => { f with synced := n } } := by
  obtain ⟨A, c', hc, hm, hp, hk, c0, c1, c2, c3, f0, f1, f2, f3, hAp, hf⟩ := h
  have e := c0.symm.trans hA
  injection e with e
  injection e with e1 _ e3
  subst e1 e3
  have hgp := hAp g off rfl
  have ne : ∀ x : Nat, (w.setCell ⟨g, off + i * 3 + 2, none⟩ (.int .i64 (n : Int))).cell? ⟨p, x, none⟩ = w.cell? ⟨p, x, none⟩ := fun x => World.cell?_setCell_other w _ _ _ (fun e => hgp (by injection e))
  have hlen : (d.files.modify i fun f => { f with synced := n }).length = d.files.length := List.length_modify _ _ _
  refine ⟨some ⟨g, off, none⟩, c', by simp only [hlen]; exact hc, hm, by simpa using hp, hk, by simp only [hlen]; exact (ne 0).trans c0, (ne 1).trans c1, (ne 2).trans c2, (ne 3).trans c3, ?_, ?_, ?_, ?_, hAp, FRow.synced hf hi ho⟩
  all_goals rw [World.frozen?_setCell]; assumption

end Go.Proofs.YtjninegpaoblfaaDoor.RefSync5

namespace Go.Proofs.YtjninegpaoblfaaDoor.RefRen5
open Go Go.RowKit Words DkSpec RefDisk RefChange RefRow RefTake RefPut5 RefOps5

end Go.Proofs.YtjninegpaoblfaaDoor.RefRen5

namespace Go.Proofs.YtjninegpaoblfaaDoor.RefNew5
open Go Go.RowKit Words DkSpec RefDisk RefChange RefRow RefTake RefPut5 RefOps5

/-- A new disk at a new block; all that was there is as it was. -/
def NPost (w : World) (K : Nat → Nat) (o : Nat) (d : DSt) (e : Ending) (w' : World) : Prop := ∃ p K', e = .returned (.pointer (some ⟨p, 0, none⟩)) ∧ w.heap.size ≤ p ∧ RefD w' K' o p d ∧ ∀ o', Turned K K' o' w w'

end Go.Proofs.YtjninegpaoblfaaDoor.RefNew5

namespace Go.Proofs.YtjninegpaoblfaaDoor.RefClone5
open Go Go.RowKit Words DkSpec RefDisk RefChange RefRow RefTake RefPut5 RefOps5 RefNew5 AppN

/-- An append whose run is known, in a region that draws its order. -/
theorem step_append_run {P : Program} {ops : Array Oper} {o : Oper} {a : Act} {w : World} {K : Act → World → Prop} {Q : Exit → Act → World → Prop} {E : Prop}
    (hg : o.guard = none) (s x : Operand) (t : TypeId) (hop : o.op = Op.call { callee := Callee.builtin Builtin.append, args := #[s, x], argTypes := #[t, t] })
    (v' : Value) (w' : World) (hrun : (Builtin.append_ #[t, t] o.type #[a.eval s, a.eval x]).run P w = .ok v' w') (hK : K (a.put o.dst v') w') :
    if Region.wanted o (yielded ops a.tmps) = true then Oper.wp P o a w K Q else E := by
  have hw : Region.wanted o (yielded ops a.tmps) = true := by simp [Region.wanted, hg]
  rw [if_pos hw]
  unfold Oper.wp
  simp [execOp, hop, resolve, invoke, builtin, hrun, Result.andThen]
  exact hK

end Go.Proofs.YtjninegpaoblfaaDoor.RefClone5

