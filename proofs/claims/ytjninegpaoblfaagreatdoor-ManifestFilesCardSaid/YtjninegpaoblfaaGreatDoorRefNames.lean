/- The contract of the document's own Name: whether a text is a file's name, as 'DkSpec.nameOk' says; the world stands. Condition: the text's length is at most the model's greatest. · The document's own disk in memory ('RefD'), and the contract of its 'find': memory is only read. Conditions: the disk lies in memory as 'RefD' says. · The contract of the document's own 'change': whether a change is refused, and its count. Conditions: the disk lies in memory as 'RefD' says; the names' lengths are at most the model's greatest. -/
import Derived.Test.YtjninegpaoblfaaGreatDoorRows
import Derived.Test.YtjninegpaoblfaaGreatDoorWords
import Derived.Test.YtjninegpaoblfaaGreatDoorDkSpec
import Derived.WalkKit
import Derived.LoopTactic
import Derived.Lib.Hide
import Derived.Outline
namespace Go.Proofs.YtjninegpaoblfaaGreatDoor.RefName
open Go Go.RowKit Words DkSpec

def bl (n : Nat) : Bool := decide (1 ≤ n) && decide (n ≤ 32)
theorem nameByte_is (c : UInt8) : nameByte c = ((c.toNat == 46 || c.toNat == 45) || (decide (48 ≤ c.toNat) && decide (c.toNat ≤ 57)) || (decide (97 ≤ c.toNat) && decide (c.toNat ≤ 122))) := by
  simp [nameByte]
def Rel (S : ByteArray) (ok i : Value) : Prop := ∃ (k : Nat) (b : Bool), k ≤ S.size ∧ i = .int .i64 (k : Int) ∧ ok = .bool b ∧ Hid (b = (bl S.size && (S.data.toList.take k).all nameByte))

theorem all_step {S : ByteArray} {k : Nat} (h : k < S.size) {b b' : Bool} (hb : b = (bl S.size && (S.data.toList.take k).all nameByte)) (ht : b = true) (hx : b' = nameByte S[k]) : b' = (bl S.size && (S.data.toList.take (k + 1)).all nameByte) := by
  have hsz : S.data.toList.length = S.size := by simp
  have e : S.data.toList.take (k + 1) = S.data.toList.take k ++ [S[k]] := by
    rw [List.take_succ_eq_append_getElem (by omega)]
    rfl
  rw [e, List.all_append]
  have h2 := hb.symm.trans ht
  rw [Bool.and_eq_true] at h2
  rw [h2.1, h2.2, hx]
  simp

theorem fin_all {S : ByteArray} {k : Nat} {b : Bool} (hb : b = (bl S.size && (S.data.toList.take k).all nameByte)) (h : k = S.size ∨ b = false) : b = nameOk S.data.toList := by
  have hsz : S.data.toList.length = S.size := by simp
  unfold nameOk
  rw [hsz]
  show b = (bl S.size && S.data.toList.all nameByte)
  rcases h with h | h
  · rw [hb, h, ← hsz, List.take_length]
  · subst h
    cases h1 : bl S.size with
    | false => rfl
    | true =>
      rw [h1, Bool.true_and] at hb
      rw [Bool.true_and]
      cases h2 : S.data.toList.all nameByte with
      | false => rfl
      | true =>
        exfalso
        have h3 : (S.data.toList.take k).all nameByte = true := List.all_eq_true.2 fun x hx => List.all_eq_true.1 h2 x (List.mem_of_mem_take hx)
        rw [h3] at hb
        cases hb

set_option maxHeartbeats 800000 in
set_option maxRecDepth 100000 in
theorem name_any (S : ByteArray) (w : World) (hS : S.size ≤ maxLen) :
    Calls Tryz.prog 42 #[.string S] w fun e w' => e = .returned (.bool (nameOk S.data.toList)) ∧ w = w' := by
  unfold maxLen at hS
  obtain ⟨b0, hb0⟩ : ∃ b, bl S.size = b := ⟨_, rfl⟩
  have HB0 := Lib.hid hb0
  unfold bl at hb0
  have hsi : (S.size : Int) = ((S.size : Nat) : Int) := rfl
  cases b0 with
  | false =>
    have h1 : S.size = 0 ∨ 32 < S.size := by
      have : ¬ (1 ≤ S.size ∧ S.size ≤ 32) := fun h => by simp [h.1, h.2] at hb0
      omega
    clear hb0 hsi
    have HF : Hid (false = nameOk S.data.toList) := Lib.hid (fin_all (k := 0) (by rw [HB0.out]; rfl) (.inr rfl))
    rcases Nat.eq_zero_or_pos S.size with hz | hz
    · have d1 : decide (1 ≤ (S.size : Int)) = false := decide_eq_false (by omega)
      have d3 : decide (0 < (S.size : Int)) = false := decide_eq_false (by omega)
      have d4 : decide (0 < S.size) = false := decide_eq_false (by omega)
      clear h1 hz
      go_enter Tryz.func42, Tryz.ntmps42
      go_wp2
      refine wp_loop_rounds 1 ?_
      rw [rounds_succ]
      go_wp2
      go_ret
      exact ⟨by rw [← HF.out]; rfl, rfl⟩
    · have d1 : decide (1 ≤ (S.size : Int)) = true := by simp; omega
      have d2 : decide ((S.size : Int) ≤ 32) = false := by simp; omega
      have d3 : decide (0 < (S.size : Int)) = true := by simp; omega
      have d4 : decide (0 < S.size) = true := by simp; omega
      clear h1
      go_enter Tryz.func42, Tryz.ntmps42
      go_wp2
      refine wp_loop_rounds 1 ?_
      rw [rounds_succ]
      go_wp2
      go_ret
      exact ⟨by rw [← HF.out]; rfl, rfl⟩
  | true =>
    have h1 : 1 ≤ S.size ∧ S.size ≤ 32 := by simpa using hb0
    obtain ⟨h1a, h1b⟩ := h1
    have d1 : decide (1 ≤ (S.size : Int)) = true := by simp; omega
    have d2 : decide ((S.size : Int) ≤ 32) = true := by simp; omega
    clear hb0 hsi
    go_enter Tryz.func42, Tryz.ntmps42
    go_wp2
    go_loop [3, 4] (fun ok i => Rel S ok i) (fun _ i => S.size - (intOf i).toNat)
    case atStart => exact ⟨0, true, by omega, rfl, rfl, Lib.hid (by rw [HB0.out]; rfl)⟩
    case round =>
      obtain ⟨k, b, hk, rfl, rfl, hb⟩ := hrel
      by_cases hlt : k < S.size
      · cases b with
        | true =>
          have HST := fun b' hx => Lib.hid (all_step (b' := b') hlt hb.out rfl hx)
          have hx := S[k].toNat_lt
          clear hb
          go_wp2
          all_goals
            go_round
            case rel => exact ⟨k + 1, _, by omega, by go_num, rfl, HST _ (by rw [nameByte_is, Bool.eq_iff_iff]; simp; omega)⟩
            case measure => simp [intOf]; omega
        | false =>
          have HF := Lib.hid (fin_all hb.out (.inr rfl))
          clear hb
          go_wp2
          go_ret
          exact ⟨by rw [← HF.out]; rfl, rfl⟩
      · have HF := Lib.hid (fin_all hb.out (.inl (by omega)))
        clear hb
        go_wp2
        go_ret
        exact ⟨by rw [← HF.out]; rfl, rfl⟩
end Go.Proofs.YtjninegpaoblfaaGreatDoor.RefName

namespace Go.Proofs.YtjninegpaoblfaaGreatDoor.RefDisk
open Go Go.RowKit Words DkSpec

def S8 (l : List UInt8) : Value := .string ⟨l.toArray⟩
/-- The files, one behind the other, three cells each. 'K' tells whose a block is: 0 of bytes that nobody writes again, o of the disk o. -/
def FRow (w : World) (K : Nat → Nat) (o : Nat) (A : Option Addr) (l : List DFile) : Prop := 0 < l.length → ∃ g off, A = some ⟨g, off, none⟩ ∧ g < w.heap.size ∧ K g = o ∧ (∀ j, w.frozen? ⟨g, j, none⟩ = false) ∧ ∀ i f, l[i]? = some f →
  w.cell? ⟨g, off + i * 3, none⟩ = some (S8 f.name) ∧ (∃ A' c', w.cell? ⟨g, off + i * 3 + 1, none⟩ = some (.slice A' f.data.length c') ∧ f.data.length ≤ c' ∧ c' ≤ maxLen ∧ Rd w w.heap.size A' (f.data.map B8) ∧ (∀ b off', A' = some ⟨b, off', none⟩ → 0 < f.data.length → K b = 0)) ∧
  w.cell? ⟨g, off + i * 3 + 2, none⟩ = some (.int .i64 (f.synced : Int))
/-- A disk at a block. -/
def RefD (w : World) (K : Nat → Nat) (o p : Nat) (d : DSt) : Prop := ∃ A c, d.files.length ≤ c ∧ c ≤ maxLen ∧ p < w.heap.size ∧ K p = o ∧ w.cell? ⟨p, 0, none⟩ = some (.slice A d.files.length c) ∧ w.cell? ⟨p, 1, none⟩ = some (.bool d.full) ∧ w.cell? ⟨p, 2, none⟩ = some (.bool d.off) ∧ w.cell? ⟨p, 3, none⟩ = some (.int .i64 d.left) ∧
  w.frozen? ⟨p, 0, none⟩ = false ∧ w.frozen? ⟨p, 1, none⟩ = false ∧ w.frozen? ⟨p, 2, none⟩ = false ∧ w.frozen? ⟨p, 3, none⟩ = false ∧ (∀ b off, A = some ⟨b, off, none⟩ → b ≠ p) ∧ FRow w K o A d.files
/-- Only the disk o's blocks have changed, and new ones have come. -/
structure Turned (K K' : Nat → Nat) (o : Nat) (w w' : World) : Prop where
  os : w'.os = w.os
  tape : w'.tape = w.tape
  output : w'.output = w.output
  size : w.heap.size ≤ w'.heap.size
  block : ∀ i, i < w.heap.size → K i ≠ o → w'.heap[i]? = w.heap[i]?
  kind : ∀ i, i < w.heap.size → K' i = K i

theorem less_is : ∀ a b : List UInt8, Op.bytesLess a b = less a b
  | _, [] => by cases ‹List UInt8› <;> rfl
  | [], _ :: _ => rfl
  | a :: x, b :: y => by
    rw [Op.bytesLess, less, less_is x y]
    have h1 : (a == b) = (a.toNat == b.toNat) := by
      rw [Bool.eq_iff_iff, beq_iff_eq, beq_iff_eq]
      exact UInt8.toNat_inj.symm
    rw [h1]
    rfl
theorem less_asymm {a b : List UInt8} (h : less a b = true) : less b a = false := by
  cases h2 : less b a with
  | false => rfl
  | true => have := less_trans h h2; rw [less_irrefl] at this; cases this
/-- 'f > name'. -/
theorem gtr_is (a b : List UInt8) : (!(less a b || a == b)) = less b a := by
  by_cases h : a = b
  · subst h; simp [less_irrefl]
  · rcases less_total h with h1 | h1
    · rw [h1, less_asymm h1]; rfl
    · rw [h1, less_asymm h1]; simp [h]

theorem run_gtr (w : World) (a b : List UInt8) (x : Bool) (h : less b a = x) : (binOp .gtr 9 (.string ⟨a.toArray⟩) (.string ⟨b.toArray⟩)).run Tryz.prog w = .ok (.bool x) w := by
  show Result.ok (Value.bool (!(Op.bytesLess (ByteArray.toList ⟨a.toArray⟩) (ByteArray.toList ⟨b.toArray⟩) || ByteArray.toList ⟨a.toArray⟩ == ByteArray.toList ⟨b.toArray⟩))) w = _
  rw [ByteArray.toList_mk, ByteArray.toList_mk, less_is, gtr_is, h]
/-- The loop: the first k names come ahead. -/
def Rel (name : List UInt8) (l : List DFile) (i : Value) : Prop := ∃ k : Nat, k ≤ l.length ∧ i = .int .i64 (k : Int) ∧ Hid (place name l = (k + (place name (l.drop k)).1, (place name (l.drop k)).2))

set_option maxHeartbeats 800000 in
set_option maxRecDepth 100000 in
theorem find_any (w : World) (K : Nat → Nat) (o p : Nat) (d : DSt) (name : List UInt8) (hd : RefD w K o p d) :
    Calls Tryz.prog 43 #[.pointer (some ⟨p, 0, none⟩), S8 name] w fun e w' => e = .returned (.tuple #[.int .i64 ((place name d.files).1 : Int), .bool (place name d.files).2]) ∧ w = w' := by
  obtain ⟨A, c, hc, hm, _, _, c0, _, _, _, _, _, _, _, _, hf⟩ := hd
  unfold maxLen at hm
  have HF := Lib.hid hf
  clear hf
  unfold S8
  generalize d.files = l at *
  go_enter Tryz.func43, Tryz.ntmps43
  go_wp2
  go_loop [6] (fun i => Rel name l i) (fun i => l.length - (intOf i).toNat)
  case atStart => exact ⟨0, by omega, rfl, Lib.hid (by simp)⟩
  case round =>
    obtain ⟨k, hk, rfl, hp⟩ := hrel
    by_cases hlt : k < l.length
    · obtain ⟨g, off, rfl, _, _, _, hcell⟩ := HF.out (by omega)
      obtain ⟨k0, _, _⟩ := hcell k l[k] (List.getElem?_eq_getElem hlt)
      unfold S8 at k0
      have hdrop : l.drop k = l[k] :: l.drop (k + 1) := List.drop_eq_getElem_cons hlt
      have HP := Lib.hid (hp.out)
      rw [hdrop, place] at HP
      clear hcell hdrop hp
      generalize l[k] = f at *
      generalize f.name = nm at *
      by_cases he : nm = name
      · subst he
        rw [if_pos rfl] at HP
        have e1 : (nm == nm) = true := by simp
        go_wp2
        go_ret2
        exact ⟨by rw [HP.out]; rfl, rfl⟩
      · rw [if_neg he] at HP
        have e1 : (nm == name) = false := beq_eq_false_iff_ne.2 he
        by_cases hl : less name nm = true
        · rw [if_pos hl] at HP
          have e2 := fun w => run_gtr w nm name true hl
          clear he hl
          go_wp2
          go_ret2
          exact ⟨by rw [HP.out]; rfl, rfl⟩
        · have e2 := fun w => run_gtr w nm name false (by simpa using hl)
          rw [if_neg hl] at HP
          clear he hl
          go_wp2
          go_round
          case rel => exact ⟨k + 1, by omega, by go_num, Lib.hid (by rw [HP.out]; simp only [Nat.add_assoc, Nat.add_comm 1])⟩
          case measure => simp [intOf]; omega
    · have hk' : k = l.length := by omega
      have HP := Lib.hid hp.out
      rw [hk', List.drop_length, place] at HP
      clear hp
      subst hk'
      go_wp2
      go_ret2
      exact ⟨by rw [HP.out]; rfl, rfl⟩

theorem cell_of {w w' : World} {b off : Nat} (h : w'.heap[b]? = w.heap[b]?) : w'.cell? ⟨b, off, none⟩ = w.cell? ⟨b, off, none⟩ := World.cell?_of_block h
theorem Turned.refl (K : Nat → Nat) (o : Nat) (w : World) : Turned K K o w w := ⟨rfl, rfl, rfl, Nat.le_refl _, fun _ _ _ => rfl, fun _ _ => rfl⟩
theorem Turned.trans {K K' K'' : Nat → Nat} {o : Nat} {w w' w'' : World} (h : Turned K K' o w w') (h' : Turned K' K'' o w' w'') : Turned K K'' o w w'' :=
  ⟨h'.os.trans h.os, h'.tape.trans h.tape, h'.output.trans h.output, Nat.le_trans h.size h'.size,
    fun i hi hk => (h'.block i (by have := h.size; omega) (by rw [h.kind i hi]; exact hk)).trans (h.block i hi hk),
    fun i hi => (h'.kind i (by have := h.size; omega)).trans (h.kind i hi)⟩
/-- Bytes that nobody writes again stay. -/
theorem rd_turned {K K' : Nat → Nat} {o : Nat} {w w' : World} {A : Option Addr} {vs : List Value} (h : Turned K K' o w w') (ho : o ≠ 0) (hr : Rd w w.heap.size A vs) (hk : ∀ b off, A = some ⟨b, off, none⟩ → 0 < vs.length → K b = 0) : Rd w' w'.heap.size A vs := fun hn => by
  obtain ⟨b, off, e, hb, hc⟩ := hr hn
  refine ⟨b, off, e, Nat.lt_of_lt_of_le hb h.size, fun j u hu => ?_⟩
  rw [cell_of (h.block b hb (by rw [hk b off e hn]; exact fun e => ho e.symm))]
  exact hc j u hu
/-- Another disk stays. -/
theorem RefD.turned {K K' : Nat → Nat} {o o2 p : Nat} {w w' : World} {d : DSt} (hd : RefD w K o2 p d) (h : Turned K K' o w w') (ho : o ≠ 0) (h2 : o2 ≠ o) : RefD w' K' o2 p d := by
  obtain ⟨A, c, hc, hm, hp, hk, c0, c1, c2, c3, f0, f1, f2, f3, hA, hf⟩ := hd
  have hb := h.block p hp (by rw [hk]; exact h2)
  have hfz : ∀ j, w'.frozen? ⟨p, j, none⟩ = w.frozen? ⟨p, j, none⟩ := fun j => by unfold World.frozen?; rw [hb]
  refine ⟨A, c, hc, hm, Nat.lt_of_lt_of_le hp h.size, (h.kind p hp).trans hk, (cell_of hb).trans c0, (cell_of hb).trans c1, (cell_of hb).trans c2, (cell_of hb).trans c3, (hfz 0).trans f0, (hfz 1).trans f1, (hfz 2).trans f2, (hfz 3).trans f3, hA, fun hn => ?_⟩
  obtain ⟨g, off, e, hg, hkg, hgz, hcell⟩ := hf hn
  have hbg := h.block g hg (by rw [hkg]; exact h2)
  refine ⟨g, off, e, Nat.lt_of_lt_of_le hg h.size, (h.kind g hg).trans hkg, fun j => by rw [← hgz j]; unfold World.frozen?; rw [hbg], fun i f hi => ?_⟩
  obtain ⟨k0, ⟨A', c', k1, k1a, k1b, k1c, k1d⟩, k2⟩ := hcell i f hi
  refine ⟨(cell_of hbg).trans k0, ⟨A', c', (cell_of hbg).trans k1, k1a, k1b, rd_turned h ho k1c (by simpa using k1d), fun b off' e' hl => ?_⟩, (cell_of hbg).trans k2⟩
  obtain ⟨b2, off2, e2, hb2, _⟩ := k1c (by simpa using hl)
  rw [e'] at e2
  injection e2 with e2
  injection e2 with e2
  subst e2
  exact (h.kind b hb2).trans (k1d b off' e' hl)
end Go.Proofs.YtjninegpaoblfaaGreatDoor.RefDisk

namespace Go.Proofs.YtjninegpaoblfaaGreatDoor.RefChange
open Go Go.RowKit Words DkSpec RefName RefDisk

theorem name_list (l : List UInt8) (w : World) (hl : l.length ≤ maxLen) : Calls Tryz.prog 42 #[.string ⟨l.toArray⟩] w fun e w' => e = .returned (.bool (nameOk l)) ∧ w = w' := by
  have h := name_any ⟨l.toArray⟩ w (by show l.toArray.size ≤ _; simpa using hl)
  simpa using h

theorem FRow.poke {w : World} {K : Nat → Nat} {o p j : Nat} {u : Value} {A : Option Addr} {l : List DFile} (h : FRow w K o A l) (hA : ∀ b off, A = some ⟨b, off, none⟩ → b ≠ p) (hp : K p = o) (ho : o ≠ 0) : FRow (w.setCell ⟨p, j, none⟩ u) K o A l := fun hn => by
  obtain ⟨g, off, e, hg, hk, hgz, hcell⟩ := h hn
  have hgp := hA g off e
  have ne : ∀ (b i : Nat), b ≠ p → (w.setCell ⟨p, j, none⟩ u).cell? ⟨b, i, none⟩ = w.cell? ⟨b, i, none⟩ := fun b i hb => World.cell?_setCell_other w _ _ u (fun e => hb (by injection e with e; exact e.symm))
  refine ⟨g, off, e, by simpa using hg, hk, fun j' => by rw [World.frozen?_setCell]; exact hgz j', fun i f hi => ?_⟩
  obtain ⟨k0, ⟨A', c', k1, k1a, k1b, k1c, k1d⟩, k2⟩ := hcell i f hi
  refine ⟨(ne _ _ hgp).trans k0, ⟨A', c', (ne _ _ hgp).trans k1, k1a, k1b, fun hl => ?_, k1d⟩, (ne _ _ hgp).trans k2⟩
  obtain ⟨b2, off2, e2, hb2, hc2⟩ := k1c hl
  refine ⟨b2, off2, e2, by simpa using hb2, fun j' u' hu => (ne _ _ ?_).trans (hc2 j' u' hu)⟩
  have h0 := k1d b2 off2 e2 (by simpa using hl)
  intro e
  rw [e, hp] at h0
  exact ho h0
theorem turned_poke {w : World} {K : Nat → Nat} {o p j : Nat} {u : Value} (hp : K p = o) : Turned K K o w (w.setCell ⟨p, j, none⟩ u) := by
  refine ⟨rfl, rfl, rfl, by simp, fun i hi hk => ?_, fun _ _ => rfl⟩
  have hne : i ≠ p := fun e => hk (by rw [e]; exact hp)
  simp [World.setCell, Array.getElem?_modify, hne.symm]
section
variable {w : World} {K : Nat → Nat} {o p : Nat} {d : DSt}
theorem RefD.left (h : RefD w K o p d) (ho : o ≠ 0) (n : Int) : RefD (w.setCell ⟨p, 3, none⟩ (.int .i64 n)) K o p { d with left := n } := by
  obtain ⟨A, c, hc, hm, hp, hk, c0, c1, c2, c3, f0, f1, f2, f3, hA, hf⟩ := h
  refine ⟨A, c, hc, hm, by simpa using hp, hk, ?_, ?_, ?_, ?_, ?_, ?_, ?_, ?_, hA, RefChange.FRow.poke hf hA hk ho⟩
  · rw [World.cell?_setCell_other _ _ _ _ (by simp)]; exact c0
  · rw [World.cell?_setCell_other _ _ _ _ (by simp)]; exact c1
  · rw [World.cell?_setCell_other _ _ _ _ (by simp)]; exact c2
  · exact World.cell?_setCell_same _ _ _ c3
  all_goals rw [World.frozen?_setCell]; assumption
theorem RefD.toOff (h : RefD w K o p d) (ho : o ≠ 0) (b : Bool) : RefD (w.setCell ⟨p, 2, none⟩ (.bool b)) K o p { d with off := b } := by
  obtain ⟨A, c, hc, hm, hp, hk, c0, c1, c2, c3, f0, f1, f2, f3, hA, hf⟩ := h
  refine ⟨A, c, hc, hm, by simpa using hp, hk, ?_, ?_, ?_, ?_, ?_, ?_, ?_, ?_, hA, RefChange.FRow.poke hf hA hk ho⟩
  · rw [World.cell?_setCell_other _ _ _ _ (by simp)]; exact c0
  · rw [World.cell?_setCell_other _ _ _ _ (by simp)]; exact c1
  · exact World.cell?_setCell_same _ _ _ c2
  · rw [World.cell?_setCell_other _ _ _ _ (by simp)]; exact c3
  all_goals rw [World.frozen?_setCell]; assumption
theorem RefD.toFull (h : RefD w K o p d) (ho : o ≠ 0) (b : Bool) : RefD (w.setCell ⟨p, 1, none⟩ (.bool b)) K o p { d with full := b } := by
  obtain ⟨A, c, hc, hm, hp, hk, c0, c1, c2, c3, f0, f1, f2, f3, hA, hf⟩ := h
  refine ⟨A, c, hc, hm, by simpa using hp, hk, ?_, ?_, ?_, ?_, ?_, ?_, ?_, ?_, hA, RefChange.FRow.poke hf hA hk ho⟩
  · rw [World.cell?_setCell_other _ _ _ _ (by simp)]; exact c0
  · exact World.cell?_setCell_same _ _ _ c1
  · rw [World.cell?_setCell_other _ _ _ _ (by simp)]; exact c2
  · rw [World.cell?_setCell_other _ _ _ _ (by simp)]; exact c3
  all_goals rw [World.frozen?_setCell]; assumption
end

/-- What 'change' answers and leaves. -/
def ChPost (w : World) (K : Nat → Nat) (o p : Nat) (d : DSt) (a b : List UInt8) (e : Ending) (w' : World) : Prop :=
  e = .returned (.int .i64 (refused a b d : Int)) ∧ RefD w' K o p (if refused a b d ≠ 0 then d else stepped d) ∧ Turned K K o w w'
theorem RefD.world {w : World} {K : Nat → Nat} {o p : Nat} {d d' : DSt} (h : RefD w K o p d) (e : d = d') : RefD w K o p d' := e ▸ h

section
theorem change_nil (w : World) (a b : List UInt8) : Calls Tryz.prog 58 #[.pointer none, .string ⟨a.toArray⟩, .string ⟨b.toArray⟩] w fun e w' => e = .returned (.int .i64 2) ∧ w = w' := by
  go_enter Tryz.func58, Tryz.ntmps58
  go_wp2
  go_ret
  exact ⟨rfl, rfl⟩

set_option maxHeartbeats 1600000 in
set_option maxRecDepth 100000 in
theorem change_any (w : World) (K : Nat → Nat) (o p : Nat) (d : DSt) (a b : List UInt8) (hd : RefD w K o p d) (ho : o ≠ 0) (ha : a.length ≤ maxLen) (hb : b.length ≤ maxLen) (hl1 : -1 ≤ d.left) (hl2 : d.left ≤ 9223372036854775807) :
    Calls Tryz.prog 58 #[.pointer (some ⟨p, 0, none⟩), .string ⟨a.toArray⟩, .string ⟨b.toArray⟩] w (ChPost w K o p d a b) := by
  have HNA := Lib.hid (name_list a w ha)
  have HNB := Lib.hid (name_list b w hb)
  have HD := Lib.hid hd
  obtain ⟨A, c, _, _, hp, hk, c0, c1, c2, c3, f0, f1, f2, f3, _, _⟩ := hd
  have HK := Lib.hid hk
  clear hk ha hb c0 c1
  have HR : Hid (∀ n, refused a b d = n → n ≠ 0 → ∀ x : Int, x = (n : Int) → ChPost w K o p d a b (.returned (.int .i64 x)) w) := Lib.hid fun n hn h0 x hx => ⟨by rw [hn, hx], by rw [if_pos (by rw [hn]; exact h0)]; exact HD.out, Turned.refl _ _ _⟩
  have HREF : Hid (refused a b d = if !nameOk a || !nameOk b then 1 else if d.off then 23 else 0) := Lib.hid rfl
  by_cases hna : nameOk a = true
  · rw [hna] at HNA HREF
    by_cases hnb : nameOk b = true
    · rw [hnb] at HNB HREF
      cases hoff : d.off with
      | true =>
        rw [hoff] at c2 HREF
        clear hna hnb hoff
        go_enter Tryz.func58, Tryz.ntmps58
        go_wp2_with fail
        refine HNA.out.mono ?_
        rintro e w1 ⟨rfl, rfl⟩
        go_wp2_with fail
        refine HNB.out.mono ?_
        rintro e w1 ⟨rfl, rfl⟩
        go_wp2
        go_ret
        exact HR.out 23 HREF.out (by omega) _ rfl
      | false =>
        rw [hoff] at c2 HREF
        have HR0 : Hid (refused a b d = 0) := Lib.hid HREF.out
        have HOFF := Lib.hid hoff
        obtain ⟨L, hL⟩ : ∃ L, d.left = L := ⟨_, rfl⟩
        rw [hL] at c3 hl1 hl2
        have HL := Lib.hid hL
        clear hna hnb hoff hL HR HREF
        by_cases hz : 0 < L
        · have hd1 : decide (0 < L) = true := by simpa using hz
          by_cases h1 : L = 1
          · subst h1
            have HF := Lib.hid (turned_poke (w := w) (K := K) (o := o) (p := p) (j := 3) (u := .int .i64 0) HK.out |>.trans (turned_poke (w := w.setCell ⟨p, 3, none⟩ (.int .i64 0)) (j := 2) (u := .bool true) HK.out))
            have HS : Hid (RefD ((w.setCell ⟨p, 3, none⟩ (.int .i64 0)).setCell ⟨p, 2, none⟩ (.bool true)) K o p (stepped d)) := Lib.hid (RefD.world (RefD.toOff (RefD.left HD.out ho 0) ho true) (by unfold stepped; rw [HL.out, if_pos (by omega)]; rfl))
            go_enter Tryz.func58, Tryz.ntmps58
            go_wp2_with fail
            refine HNA.out.mono ?_
            rintro e w1 ⟨rfl, rfl⟩
            go_wp2_with fail
            refine HNB.out.mono ?_
            rintro e w1 ⟨rfl, rfl⟩
            go_wp2
            go_ret
            exact ⟨by rw [HR0.out]; rfl, by rw [if_neg (by rw [HR0.out]; simp)]; exact HS.out, HF.out⟩
          · have h2 : 2 ≤ L := by omega
            have hne : ((L - 1) == 0) = false := beq_eq_false_iff_ne.2 (by omega)
            have HF := Lib.hid (turned_poke (w := w) (K := K) (o := o) (p := p) (j := 3) (u := .int .i64 (L - 1)) HK.out)
            have HS : Hid (RefD (w.setCell ⟨p, 3, none⟩ (.int .i64 (L - 1))) K o p (stepped d)) := Lib.hid (RefD.world (RefD.left HD.out ho (L - 1)) (by
              have hq : (L == 1) = false := beq_eq_false_iff_ne.2 h1
              have ho2 := HOFF.out
              unfold stepped
              rw [HL.out, if_pos hz, hq, ← ho2]))
            clear h1 hz
            go_enter Tryz.func58, Tryz.ntmps58
            go_wp2_with fail
            refine HNA.out.mono ?_
            rintro e w1 ⟨rfl, rfl⟩
            go_wp2_with fail
            refine HNB.out.mono ?_
            rintro e w1 ⟨rfl, rfl⟩
            go_wp2
            go_ret
            exact ⟨by rw [HR0.out]; rfl, by rw [if_neg (by rw [HR0.out]; simp)]; exact HS.out, HF.out⟩
        · have hd1 : decide (0 < L) = false := by simpa using hz
          have HS : Hid (RefD w K o p (stepped d)) := Lib.hid (RefD.world HD.out (by unfold stepped; rw [HL.out, if_neg hz]))
          clear hz
          go_enter Tryz.func58, Tryz.ntmps58
          go_wp2_with fail
          refine HNA.out.mono ?_
          rintro e w1 ⟨rfl, rfl⟩
          go_wp2_with fail
          refine HNB.out.mono ?_
          rintro e w1 ⟨rfl, rfl⟩
          go_wp2
          go_ret
          exact ⟨by rw [HR0.out]; rfl, by rw [if_neg (by rw [HR0.out]; simp)]; exact HS.out, Turned.refl _ _ _⟩
    · have hnb' : nameOk b = false := by simpa using hnb
      rw [hnb'] at HNB HREF
      clear hna hnb hnb'
      go_enter Tryz.func58, Tryz.ntmps58
      go_wp2_with fail
      refine HNA.out.mono ?_
      rintro e w1 ⟨rfl, rfl⟩
      go_wp2_with fail
      refine HNB.out.mono ?_
      rintro e w1 ⟨rfl, rfl⟩
      go_wp2
      go_ret
      exact HR.out 1 HREF.out (by omega) _ rfl
  · have hna' : nameOk a = false := by simpa using hna
    rw [hna'] at HNA HREF
    clear hna hna'
    go_enter Tryz.func58, Tryz.ntmps58
    go_wp2_with fail
    refine HNA.out.mono ?_
    rintro e w1 ⟨rfl, rfl⟩
    go_wp2
    go_ret
    exact HR.out 1 HREF.out (by omega) _ rfl
end
end Go.Proofs.YtjninegpaoblfaaGreatDoor.RefChange

