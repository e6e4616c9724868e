/- The contract of the document's own Name: whether a text is a file's name, as 'DkSpec.nameOk' says; the world stands. Condition: the text's length is at most the model's greatest. · The contracts of isNameByte and isName: whether a text is a file's name, as 'DkSpec.nameOk' says; the world stands. Condition: the text's length is at most the model's greatest. · The document's own disk in memory ('RefD'), and the contract of its 'find': memory is only read. Conditions: the disk lies in memory as 'RefD' says. · The contract of the document's own 'change': whether a change is refused, and its count. Conditions: the disk lies in memory as 'RefD' says; the names' lengths are at most the model's greatest. -/
import Derived.Test.YtapbjmbakpopcaaDoorRows
import Derived.Test.YtapbjmbakpopcaaDoorWords
import Derived.Test.YtapbjmbakpopcaaDoorPdLooks
import Derived.WalkKit
import Derived.LoopTactic
import Derived.Lib.Hide
import Derived.Outline
namespace Go.Proofs.YtapbjmbakpopcaaDoor.RefName
open Go Go.RowKit Words DkSpec

def bl (n : Nat) : Bool := decide (1 ≤ n) && decide (n ≤ 32)
theorem nameByte_is (c : UInt8) : nameByte c = ((c.toNat == 46 || c.toNat == 45) || (decide (48 ≤ c.toNat) && decide (c.toNat ≤ 57)) || (decide (97 ≤ c.toNat) && decide (c.toNat ≤ 122))) := by
  simp [nameByte]
def Rel (S : ByteArray) (ok i : Value) : Prop := ∃ (k : Nat) (b : Bool), k ≤ S.size ∧ i = .int .i64 (k : Int) ∧ ok = .bool b ∧ Hid (b = (bl S.size && (S.data.toList.take k).all nameByte))

theorem all_step {S : ByteArray} {k : Nat} (h : k < S.size) {b b' : Bool} (hb : b = (bl S.size && (S.data.toList.take k).all nameByte)) (ht : b = true) (hx : b' = nameByte S[k]) : b' = (bl S.size && (S.data.toList.take (k + 1)).all nameByte) := by
  have hsz : S.data.toList.length = S.size := by simp
  have e : S.data.toList.take (k + 1) = S.data.toList.take k ++ [S[k]] := by
    rw [List.take_succ_eq_append_getElem (by omega)]
    rfl
  rw [e, List.all_append]
  have h2 := hb.symm.trans ht
  rw [Bool.and_eq_true] at h2
  rw [h2.1, h2.2, hx]
  simp

theorem fin_all {S : ByteArray} {k : Nat} {b : Bool} (hb : b = (bl S.size && (S.data.toList.take k).all nameByte)) (h : k = S.size ∨ b = false) : b = nameOk S.data.toList := by
  have hsz : S.data.toList.length = S.size := by simp
  unfold nameOk
  rw [hsz]
  show b = (bl S.size && S.data.toList.all nameByte)
  rcases h with h | h
  · rw [hb, h, ← hsz, List.take_length]
  · subst h
    cases h1 : bl S.size with
    | false => rfl
    | true =>
      rw [h1, Bool.true_and] at hb
      rw [Bool.true_and]
      cases h2 : S.data.toList.all nameByte with
      | false => rfl
      | true =>
        exfalso
        have h3 : (S.data.toList.take k).all nameByte = true := List.all_eq_true.2 fun x hx => List.all_eq_true.1 h2 x (List.mem_of_mem_take hx)
        rw [h3] at hb
        cases hb

end Go.Proofs.YtapbjmbakpopcaaDoor.RefName

namespace Go.Proofs.YtapbjmbakpopcaaDoor.PdName
open Go Go.RowKit Words DkSpec RefName

set_option maxHeartbeats 800000 in
theorem byte_any (c : UInt8) (w : World) : Calls Tryd.prog 46 #[.int .u8 (c.toNat : Int)] w fun e w' => e = .returned (.bool (nameByte c)) ∧ w = w' := by
  have hx := c.toNat_lt
  have HB := Lib.hid (nameByte_is c)
  generalize nameByte c = r at *
  generalize c.toNat = n at *
  go_enter Tryd.func46, Tryd.ntmps46
  go_wp2
  all_goals
    go_ret
    refine ⟨congrArg (fun b => Ending.returned (Value.bool b)) ?_, rfl⟩
    rw [HB.out, Bool.eq_iff_iff]
    simp
    omega

def Rel (S : ByteArray) (i : Value) : Prop := ∃ k : Nat, k ≤ S.size ∧ i = .int .i64 (k : Int) ∧ Hid ((S.data.toList.take k).all nameByte = true)

theorem all_no {S : ByteArray} {k : Nat} (h : k < S.size) (hx : nameByte S[k] = false) : nameOk S.data.toList = false := by
  have hsz : S.data.toList.length = S.size := by simp
  unfold nameOk
  have : S.data.toList.all nameByte = false := by
    rw [List.all_eq_false]
    exact ⟨S[k], Array.mem_toList_iff.2 (Array.getElem_mem _), by simp [hx]⟩
  rw [this, Bool.and_false]
theorem all_more {S : ByteArray} {k : Nat} (h : k < S.size) (hb : (S.data.toList.take k).all nameByte = true) (hx : nameByte S[k] = true) : (S.data.toList.take (k + 1)).all nameByte = true := by
  have hsz : S.data.toList.length = S.size := by simp
  have e : S.data.toList.take (k + 1) = S.data.toList.take k ++ [S[k]] := by
    rw [List.take_succ_eq_append_getElem (by omega)]
    rfl
  rw [e, List.all_append, hb]
  simp [hx]

set_option maxHeartbeats 800000 in
set_option maxRecDepth 100000 in
theorem name_any (S : ByteArray) (w : World) (hS : S.size ≤ maxLen) :
    Calls Tryd.prog 38 #[.string S] w fun e w' => e = .returned (.bool (nameOk S.data.toList)) ∧ w = w' := by
  unfold maxLen at hS
  have hsz : S.data.toList.length = S.size := by simp
  by_cases h0 : S.size = 0
  · have HF : Hid (nameOk S.data.toList = false) := Lib.hid (by unfold nameOk; rw [hsz, h0]; rfl)
    have d1 : ((S.size : Int) == 0) = true := by simp [h0]
    clear hsz h0
    go_enter Tryd.func38, Tryd.ntmps38
    go_wp2
    go_ret
    exact ⟨by rw [HF.out]; rfl, rfl⟩
  · have d1 : ((S.size : Int) == 0) = false := beq_eq_false_iff_ne.2 (by omega)
    by_cases h1 : 32 < S.size
    · have HF : Hid (nameOk S.data.toList = false) := Lib.hid (by unfold nameOk; rw [hsz, show decide (S.size ≤ 32) = false from decide_eq_false (by omega)]; simp)
      have d2 : decide (32 < (S.size : Int)) = true := by simp; omega
      clear hsz h0 h1
      go_enter Tryd.func38, Tryd.ntmps38
      go_wp2
      go_ret
      exact ⟨by rw [HF.out]; rfl, rfl⟩
    · have d2 : decide (32 < (S.size : Int)) = false := by simp; omega
      have HE : Hid ((S.data.toList.take S.size).all nameByte = true → nameOk S.data.toList = true) := Lib.hid (fun h => by
        rw [← hsz, List.take_length] at h
        unfold nameOk
        rw [hsz, h, show decide (1 ≤ S.size) = true from decide_eq_true (by omega), show decide (S.size ≤ 32) = true from decide_eq_true (by omega)]
        rfl)
      clear hsz h0 h1
      go_enter Tryd.func38, Tryd.ntmps38
      go_wp2
      go_loop [14] (fun i => Rel S i) (fun i => S.size - (intOf i).toNat)
      case atStart => exact ⟨0, by omega, rfl, Lib.hid rfl⟩
      case round =>
        obtain ⟨k, hk, rfl, hb⟩ := hrel
        by_cases hlt : k < S.size
        · have HC := fun w => Lib.hid (byte_any S[k] w)
          have HN := Lib.hid (all_no hlt)
          have HM := Lib.hid (all_more hlt hb.out)
          clear hb
          generalize nameByte S[k] = b at *
          cases b with
          | true =>
            go_wp2_with fail
            refine (HC _).out.mono ?_
            rintro e w1 ⟨rfl, rfl⟩
            go_wp2
            go_round
            case rel => exact ⟨k + 1, by omega, by go_num, Lib.hid (HM.out trivial)⟩
            case measure => simp [intOf]; omega
          | false =>
            go_wp2_with fail
            refine (HC _).out.mono ?_
            rintro e w1 ⟨rfl, rfl⟩
            go_wp2
            go_ret
            exact ⟨by rw [HN.out trivial]; rfl, rfl⟩
        · have hkn : k = S.size := by omega
          subst hkn
          have HF := Lib.hid (HE.out hb.out)
          clear hb
          go_wp2
          go_ret
          exact ⟨by rw [HF.out]; rfl, rfl⟩
theorem name_list (l : List UInt8) (w : World) (hl : l.length ≤ maxLen) : Calls Tryd.prog 38 #[.string ⟨l.toArray⟩] w fun e w' => e = .returned (.bool (nameOk l)) ∧ w = w' := by
  have h := name_any ⟨l.toArray⟩ w (by show l.toArray.size ≤ _; simpa using hl)
  simpa using h
end Go.Proofs.YtapbjmbakpopcaaDoor.PdName

namespace Go.Proofs.YtapbjmbakpopcaaDoor.RefDisk
open Go Go.RowKit Words DkSpec

def S8 (l : List UInt8) : Value := .string ⟨l.toArray⟩
/-- The files, one behind the other, three cells each. 'K' tells whose a block is: 0 of bytes that nobody writes again, o of the disk o. -/
def FRow (w : World) (K : Nat → Nat) (o : Nat) (A : Option Addr) (l : List DFile) : Prop := 0 < l.length → ∃ g off, A = some ⟨g, off, none⟩ ∧ g < w.heap.size ∧ K g = o ∧ (∀ j, w.frozen? ⟨g, j, none⟩ = false) ∧ ∀ i f, l[i]? = some f →
  w.cell? ⟨g, off + i * 3, none⟩ = some (S8 f.name) ∧ (∃ A' c', w.cell? ⟨g, off + i * 3 + 1, none⟩ = some (.slice A' f.data.length c') ∧ f.data.length ≤ c' ∧ c' ≤ maxLen ∧ Rd w w.heap.size A' (f.data.map B8) ∧ (∀ b off', A' = some ⟨b, off', none⟩ → 0 < f.data.length → K b = 0)) ∧
  w.cell? ⟨g, off + i * 3 + 2, none⟩ = some (.int .i64 (f.synced : Int))
/-- A disk at a block. -/
def RefD (w : World) (K : Nat → Nat) (o p : Nat) (d : DSt) : Prop := ∃ A c, d.files.length ≤ c ∧ c ≤ maxLen ∧ p < w.heap.size ∧ K p = o ∧ w.cell? ⟨p, 0, none⟩ = some (.slice A d.files.length c) ∧ w.cell? ⟨p, 1, none⟩ = some (.bool d.full) ∧ w.cell? ⟨p, 2, none⟩ = some (.bool d.off) ∧ w.cell? ⟨p, 3, none⟩ = some (.int .i64 d.left) ∧
  w.frozen? ⟨p, 0, none⟩ = false ∧ w.frozen? ⟨p, 1, none⟩ = false ∧ w.frozen? ⟨p, 2, none⟩ = false ∧ w.frozen? ⟨p, 3, none⟩ = false ∧ (∀ b off, A = some ⟨b, off, none⟩ → b ≠ p) ∧ FRow w K o A d.files
/-- Only the disk o's blocks have changed, and new ones have come. -/
structure Turned (K K' : Nat → Nat) (o : Nat) (w w' : World) : Prop where
  os : w'.os = w.os
  tape : w'.tape = w.tape
  output : w'.output = w.output
  size : w.heap.size ≤ w'.heap.size
  block : ∀ i, i < w.heap.size → K i ≠ o → w'.heap[i]? = w.heap[i]?
  kind : ∀ i, i < w.heap.size → K' i = K i

theorem less_is : ∀ a b : List UInt8, Op.bytesLess a b = less a b
  | _, [] => by cases ‹List UInt8› <;> rfl
  | [], _ :: _ => rfl
  | a :: x, b :: y => by
    rw [Op.bytesLess, less, less_is x y]
    have h1 : (a == b) = (a.toNat == b.toNat) := by
      rw [Bool.eq_iff_iff, beq_iff_eq, beq_iff_eq]
      exact UInt8.toNat_inj.symm
    rw [h1]
    rfl
theorem less_asymm {a b : List UInt8} (h : less a b = true) : less b a = false := by
  cases h2 : less b a with
  | false => rfl
  | true => have := less_trans h h2; rw [less_irrefl] at this; cases this
/-- 'f > name'. -/
theorem gtr_is (a b : List UInt8) : (!(less a b || a == b)) = less b a := by
  by_cases h : a = b
  · subst h; simp [less_irrefl]
  · rcases less_total h with h1 | h1
    · rw [h1, less_asymm h1]; rfl
    · rw [h1, less_asymm h1]; simp [h]

theorem run_gtr (w : World) (a b : List UInt8) (x : Bool) (h : less b a = x) : (binOp .gtr 9 (.string ⟨a.toArray⟩) (.string ⟨b.toArray⟩)).run Tryd.prog w = .ok (.bool x) w := by
  show Result.ok (Value.bool (!(Op.bytesLess (ByteArray.toList ⟨a.toArray⟩) (ByteArray.toList ⟨b.toArray⟩) || ByteArray.toList ⟨a.toArray⟩ == ByteArray.toList ⟨b.toArray⟩))) w = _
  rw [ByteArray.toList_mk, ByteArray.toList_mk, less_is, gtr_is, h]
/-- The loop: the first k names come ahead. -/
def Rel (name : List UInt8) (l : List DFile) (i : Value) : Prop := ∃ k : Nat, k ≤ l.length ∧ i = .int .i64 (k : Int) ∧ Hid (place name l = (k + (place name (l.drop k)).1, (place name (l.drop k)).2))

theorem cell_of {w w' : World} {b off : Nat} (h : w'.heap[b]? = w.heap[b]?) : w'.cell? ⟨b, off, none⟩ = w.cell? ⟨b, off, none⟩ := World.cell?_of_block h
theorem Turned.refl (K : Nat → Nat) (o : Nat) (w : World) : Turned K K o w w := ⟨rfl, rfl, rfl, Nat.le_refl _, fun _ _ _ => rfl, fun _ _ => rfl⟩
theorem Turned.trans {K K' K'' : Nat → Nat} {o : Nat} {w w' w'' : World} (h : Turned K K' o w w') (h' : Turned K' K'' o w' w'') : Turned K K'' o w w'' :=
  ⟨h'.os.trans h.os, h'.tape.trans h.tape, h'.output.trans h.output, Nat.le_trans h.size h'.size,
    fun i hi hk => (h'.block i (by have := h.size; omega) (by rw [h.kind i hi]; exact hk)).trans (h.block i hi hk),
    fun i hi => (h'.kind i (by have := h.size; omega)).trans (h.kind i hi)⟩
/-- Bytes that nobody writes again stay. -/
theorem rd_turned {K K' : Nat → Nat} {o : Nat} {w w' : World} {A : Option Addr} {vs : List Value} (h : Turned K K' o w w') (ho : o ≠ 0) (hr : Rd w w.heap.size A vs) (hk : ∀ b off, A = some ⟨b, off, none⟩ → 0 < vs.length → K b = 0) : Rd w' w'.heap.size A vs := fun hn => by
  obtain ⟨b, off, e, hb, hc⟩ := hr hn
  refine ⟨b, off, e, Nat.lt_of_lt_of_le hb h.size, fun j u hu => ?_⟩
  rw [cell_of (h.block b hb (by rw [hk b off e hn]; exact fun e => ho e.symm))]
  exact hc j u hu
/-- Another disk stays. -/
theorem RefD.turned {K K' : Nat → Nat} {o o2 p : Nat} {w w' : World} {d : DSt} (hd : RefD w K o2 p d) (h : Turned K K' o w w') (ho : o ≠ 0) (h2 : o2 ≠ o) : RefD w' K' o2 p d := by
  obtain ⟨A, c, hc, hm, hp, hk, c0, c1, c2, c3, f0, f1, f2, f3, hA, hf⟩ := hd
  have hb := h.block p hp (by rw [hk]; exact h2)
  have hfz : ∀ j, w'.frozen? ⟨p, j, none⟩ = w.frozen? ⟨p, j, none⟩ := fun j => by unfold World.frozen?; rw [hb]
  refine ⟨A, c, hc, hm, Nat.lt_of_lt_of_le hp h.size, (h.kind p hp).trans hk, (cell_of hb).trans c0, (cell_of hb).trans c1, (cell_of hb).trans c2, (cell_of hb).trans c3, (hfz 0).trans f0, (hfz 1).trans f1, (hfz 2).trans f2, (hfz 3).trans f3, hA, fun hn => ?_⟩
  obtain ⟨g, off, e, hg, hkg, hgz, hcell⟩ := hf hn
  have hbg := h.block g hg (by rw [hkg]; exact h2)
  refine ⟨g, off, e, Nat.lt_of_lt_of_le hg h.size, (h.kind g hg).trans hkg, fun j => by rw [← hgz j]; unfold World.frozen?; rw [hbg], fun i f hi => ?_⟩
  obtain ⟨k0, ⟨A', c', k1, k1a, k1b, k1c, k1d⟩, k2⟩ := hcell i f hi
  refine ⟨(cell_of hbg).trans k0, ⟨A', c', (cell_of hbg).trans k1, k1a, k1b, rd_turned h ho k1c (by simpa using k1d), fun b off' e' hl => ?_⟩, (cell_of hbg).trans k2⟩
  obtain ⟨b2, off2, e2, hb2, _⟩ := k1c (by simpa using hl)
  rw [e'] at e2
  injection e2 with e2
  injection e2 with e2
  subst e2
  exact (h.kind b hb2).trans (k1d b off' e' hl)
end Go.Proofs.YtapbjmbakpopcaaDoor.RefDisk

namespace Go.Proofs.YtapbjmbakpopcaaDoor.RefChange
open Go Go.RowKit Words DkSpec RefName RefDisk

theorem FRow.poke {w : World} {K : Nat → Nat} {o p j : Nat} {u : Value} {A : Option Addr} {l : List DFile} (h : FRow w K o A l) (hA : ∀ b off, A = some ⟨b, off, none⟩ → b ≠ p) (hp : K p = o) (ho : o ≠ 0) : FRow (w.setCell ⟨p, j, none⟩ u) K o A l := fun hn => by
  obtain ⟨g, off, e, hg, hk, hgz, hcell⟩ := h hn
  have hgp := hA g off e
  have ne : ∀ (b i : Nat), b ≠ p → (w.setCell ⟨p, j, none⟩ u).cell? ⟨b, i, none⟩ = w.cell? ⟨b, i, none⟩ := fun b i hb => World.cell?_setCell_other w _ _ u (fun e => hb (by injection e with e; exact e.symm))
  refine ⟨g, off, e, by simpa using hg, hk, fun j' => by rw [World.frozen?_setCell]; exact hgz j', fun i f hi => ?_⟩
  obtain ⟨k0, ⟨A', c', k1, k1a, k1b, k1c, k1d⟩, k2⟩ := hcell i f hi
  refine ⟨(ne _ _ hgp).trans k0, ⟨A', c', (ne _ _ hgp).trans k1, k1a, k1b, fun hl => ?_, k1d⟩, (ne _ _ hgp).trans k2⟩
  obtain ⟨b2, off2, e2, hb2, hc2⟩ := k1c hl
  refine ⟨b2, off2, e2, by simpa using hb2, fun j' u' hu => (ne _ _ ?_).trans (hc2 j' u' hu)⟩
  have h0 := k1d b2 off2 e2 (by simpa using hl)
  intro e
  rw [e, hp] at h0
  exact ho h0
theorem turned_poke {w : World} {K : Nat → Nat} {o p j : Nat} {u : Value} (hp : K p = o) : Turned K K o w (w.setCell ⟨p, j, none⟩ u) := by
  refine ⟨rfl, rfl, rfl, by simp, fun i hi hk => ?_, fun _ _ => rfl⟩
  have hne : i ≠ p := fun e => hk (by rw [e]; exact hp)
  simp [World.setCell, Array.getElem?_modify, hne.symm]
section
variable {w : World} {K : Nat → Nat} {o p : Nat} {d : DSt}
theorem RefD.left (h : RefD w K o p d) (ho : o ≠ 0) (n : Int) : RefD (w.setCell ⟨p, 3, none⟩ (.int .i64 n)) K o p { d with left := n } := by
  obtain ⟨A, c, hc, hm, hp, hk, c0, c1, c2, c3, f0, f1, f2, f3, hA, hf⟩ := h
  refine ⟨A, c, hc, hm, by simpa using hp, hk, ?_, ?_, ?_, ?_, ?_, ?_, ?_, ?_, hA, RefChange.FRow.poke hf hA hk ho⟩
  · rw [World.cell?_setCell_other _ _ _ _ (by simp)]; exact c0
  · rw [World.cell?_setCell_other _ _ _ _ (by simp)]; exact c1
  · rw [World.cell?_setCell_other _ _ _ _ (by simp)]; exact c2
  · exact World.cell?_setCell_same _ _ _ c3
  all_goals rw [World.frozen?_setCell]; assumption
theorem RefD.toOff (h : RefD w K o p d) (ho : o ≠ 0) (b : Bool) : RefD (w.setCell ⟨p, 2, none⟩ (.bool b)) K o p { d with off := b } := by
  obtain ⟨A, c, hc, hm, hp, hk, c0, c1, c2, c3, f0, f1, f2, f3, hA, hf⟩ := h
  refine ⟨A, c, hc, hm, by simpa using hp, hk, ?_, ?_, ?_, ?_, ?_, ?_, ?_, ?_, hA, RefChange.FRow.poke hf hA hk ho⟩
  · rw [World.cell?_setCell_other _ _ _ _ (by simp)]; exact c0
  · rw [World.cell?_setCell_other _ _ _ _ (by simp)]; exact c1
  · exact World.cell?_setCell_same _ _ _ c2
  · rw [World.cell?_setCell_other _ _ _ _ (by simp)]; exact c3
  all_goals rw [World.frozen?_setCell]; assumption
theorem RefD.toFull (h : RefD w K o p d) (ho : o ≠ 0) (b : Bool) : RefD (w.setCell ⟨p, 1, none⟩ (.bool b)) K o p { d with full := b } := by
  obtain ⟨A, c, hc, hm, hp, hk, c0, c1, c2, c3, f0, f1, f2, f3, hA, hf⟩ := h
  refine ⟨A, c, hc, hm, by simpa using hp, hk, ?_, ?_, ?_, ?_, ?_, ?_, ?_, ?_, hA, RefChange.FRow.poke hf hA hk ho⟩
  · rw [World.cell?_setCell_other _ _ _ _ (by simp)]; exact c0
  · exact World.cell?_setCell_same _ _ _ c1
  · rw [World.cell?_setCell_other _ _ _ _ (by simp)]; exact c2
  · rw [World.cell?_setCell_other _ _ _ _ (by simp)]; exact c3
  all_goals rw [World.frozen?_setCell]; assumption
end

/-- What 'change' answers and leaves. -/
def ChPost (w : World) (K : Nat → Nat) (o p : Nat) (d : DSt) (a b : List UInt8) (e : Ending) (w' : World) : Prop :=
  e = .returned (.int .i64 (refused a b d : Int)) ∧ RefD w' K o p (if refused a b d ≠ 0 then d else stepped d) ∧ Turned K K o w w'
theorem RefD.world {w : World} {K : Nat → Nat} {o p : Nat} {d d' : DSt} (h : RefD w K o p d) (e : d = d') : RefD w K o p d' := e ▸ h

section
end
end Go.Proofs.YtapbjmbakpopcaaDoor.RefChange

