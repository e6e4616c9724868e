/- The document's own disk in memory ('RefD'), and the contract of its 'find': memory is only read. Conditions: the disk lies in memory as 'RefD' says. -/
import Derived.Test.YtfblekedgenacaaRefName
namespace Go.Proofs.Ytfblekedgenacaa.RefDisk
open Go Go.RowKit Words DkSpec

def S8 (l : List UInt8) : Value := .string ⟨l.toArray⟩
/-- The files, one behind the other, three cells each. 'K' tells whose a block is: 0 of bytes that nobody writes again, o of the disk o. -/
def FRow (w : World) (K : Nat → Nat) (o : Nat) (A : Option Addr) (l : List DFile) : Prop := 0 < l.length → ∃ g off, A = some ⟨g, off, none⟩ ∧ g < w.heap.size ∧ K g = o ∧ (∀ j, w.frozen? ⟨g, j, none⟩ = false) ∧ ∀ i f, l[i]? = some f →
  w.cell? ⟨g, off + i * 3, none⟩ = some (S8 f.name) ∧ (∃ A' c', w.cell? ⟨g, off + i * 3 + 1, none⟩ = some (.slice A' f.data.length c') ∧ f.data.length ≤ c' ∧ c' ≤ maxLen ∧ Rd w w.heap.size A' (f.data.map B8) ∧ (∀ b off', A' = some ⟨b, off', none⟩ → 0 < f.data.length → K b = 0)) ∧
  w.cell? ⟨g, off + i * 3 + 2, none⟩ = some (.int .i64 (f.synced : Int))
/-- A disk at a block. -/
def RefD (w : World) (K : Nat → Nat) (o p : Nat) (d : DSt) : Prop := ∃ A c, d.files.length ≤ c ∧ c ≤ maxLen ∧ p < w.heap.size ∧ K p = o ∧ w.cell? ⟨p, 0, none⟩ = some (.slice A d.files.length c) ∧ w.cell? ⟨p, 1, none⟩ = some (.bool d.full) ∧ w.cell? ⟨p, 2, none⟩ = some (.bool d.off) ∧ w.cell? ⟨p, 3, none⟩ = some (.int .i64 d.left) ∧
  w.frozen? ⟨p, 0, none⟩ = false ∧ w.frozen? ⟨p, 1, none⟩ = false ∧ w.frozen? ⟨p, 2, none⟩ = false ∧ w.frozen? ⟨p, 3, none⟩ = false ∧ (∀ b off, A = some ⟨b, off, none⟩ → b ≠ p) ∧ FRow w K o A d.files
/-- Only the disk o's blocks have changed, and new ones have come. -/
structure Turned (K K' : Nat → Nat) (o : Nat) (w w' : World) : Prop where
  os : w'.os = w.os
  tape : w'.tape = w.tape
  output : w'.output = w.output
  size : w.heap.size ≤ w'.heap.size
  block : ∀ i, i < w.heap.size → K i ≠ o → w'.heap[i]? = w.heap[i]?
  kind : ∀ i, i < w.heap.size → K' i = K i

theorem less_is : ∀ a b : List UInt8, Op.bytesLess a b = less a b
  | _, [] => by cases ‹List UInt8› <;> rfl
  | [], _ :: _ => rfl
  | a :: x, b :: y => by
    rw [Op.bytesLess, less, less_is x y]
    have h1 : (a == b) = (a.toNat == b.toNat) := by
      rw [Bool.eq_iff_iff, beq_iff_eq, beq_iff_eq]
      exact UInt8.toNat_inj.symm
    rw [h1]
    rfl
theorem less_asymm {a b : List UInt8} (h : less a b = true) : less b a = false := by
  cases h2 : less b a with
  | false => rfl
  | true => have := less_trans h h2; rw [less_irrefl] at this; cases this
/-- 'f > name'. -/
theorem gtr_is (a b : List UInt8) : (!(less a b || a == b)) = less b a := by
  by_cases h : a = b
  · subst h; simp [less_irrefl]
  · rcases less_total h with h1 | h1
    · rw [h1, less_asymm h1]; rfl
    · rw [h1, less_asymm h1]; simp [h]

theorem run_gtr (w : World) (a b : List UInt8) (x : Bool) (h : less b a = x) : (binOp .gtr 9 (.string ⟨a.toArray⟩) (.string ⟨b.toArray⟩)).run Try.prog w = .ok (.bool x) w := by
  show Result.ok (Value.bool (!(Op.bytesLess (ByteArray.toList ⟨a.toArray⟩) (ByteArray.toList ⟨b.toArray⟩) || ByteArray.toList ⟨a.toArray⟩ == ByteArray.toList ⟨b.toArray⟩))) w = _
  rw [ByteArray.toList_mk, ByteArray.toList_mk, less_is, gtr_is, h]
/-- The loop: the first k names come ahead. -/
def Rel (name : List UInt8) (l : List DFile) (i : Value) : Prop := ∃ k : Nat, k ≤ l.length ∧ i = .int .i64 (k : Int) ∧ Hid (place name l = (k + (place name (l.drop k)).1, (place name (l.drop k)).2))

set_option maxHeartbeats 800000 in
set_option maxRecDepth 100000 in
theorem find_any (w : World) (K : Nat → Nat) (o p : Nat) (d : DSt) (name : List UInt8) (hd : RefD w K o p d) :
    Calls Try.prog 41 #[.pointer (some ⟨p, 0, none⟩), S8 name] w fun e w' => e = .returned (.tuple #[.int .i64 ((place name d.files).1 : Int), .bool (place name d.files).2]) ∧ w = w' := by
  obtain ⟨A, c, hc, hm, _, _, c0, _, _, _, _, _, _, _, _, hf⟩ := hd
  unfold maxLen at hm
  have HF := Lib.hid hf
  clear hf
  unfold S8
  generalize d.files = l at *
  go_enter Try.func41, Try.ntmps41
  go_wp2
  go_loop [6] (fun i => Rel name l i) (fun i => l.length - (intOf i).toNat)
  case atStart => exact ⟨0, by omega, rfl, Lib.hid (by simp)⟩
  case round =>
    obtain ⟨k, hk, rfl, hp⟩ := hrel
    by_cases hlt : k < l.length
    · obtain ⟨g, off, rfl, _, _, _, hcell⟩ := HF.out (by omega)
      obtain ⟨k0, _, _⟩ := hcell k l[k] (List.getElem?_eq_getElem hlt)
      unfold S8 at k0
      have hdrop : l.drop k = l[k] :: l.drop (k + 1) := List.drop_eq_getElem_cons hlt
      have HP := Lib.hid (hp.out)
      rw [hdrop, place] at HP
      clear hcell hdrop hp
      generalize l[k] = f at *
      generalize f.name = nm at *
      by_cases he : nm = name
      · subst he
        rw [if_pos rfl] at HP
        have e1 : (nm == nm) = true := by simp
        go_wp2
        go_ret2
        exact ⟨by rw [HP.out]; rfl, rfl⟩
      · rw [if_neg he] at HP
        have e1 : (nm == name) = false := beq_eq_false_iff_ne.2 he
        by_cases hl : less name nm = true
        · rw [if_pos hl] at HP
          have e2 := fun w => run_gtr w nm name true hl
          clear he hl
          go_wp2
          go_ret2
          exact ⟨by rw [HP.out]; rfl, rfl⟩
        · have e2 := fun w => run_gtr w nm name false (by simpa using hl)
          rw [if_neg hl] at HP
          clear he hl
          go_wp2
          go_round
          case rel => exact ⟨k + 1, by omega, by go_num, Lib.hid (by rw [HP.out]; simp only [Nat.add_assoc, Nat.add_comm 1])⟩
          case measure => simp [intOf]; omega
    · have hk' : k = l.length := by omega
      have HP := Lib.hid hp.out
      rw [hk', List.drop_length, place] at HP
      clear hp
      subst hk'
      go_wp2
      go_ret2
      exact ⟨by rw [HP.out]; rfl, rfl⟩

theorem cell_of {w w' : World} {b off : Nat} (h : w'.heap[b]? = w.heap[b]?) : w'.cell? ⟨b, off, none⟩ = w.cell? ⟨b, off, none⟩ := World.cell?_of_block h
theorem Turned.refl (K : Nat → Nat) (o : Nat) (w : World) : Turned K K o w w := ⟨rfl, rfl, rfl, Nat.le_refl _, fun _ _ _ => rfl, fun _ _ => rfl⟩
theorem Turned.trans {K K' K'' : Nat → Nat} {o : Nat} {w w' w'' : World} (h : Turned K K' o w w') (h' : Turned K' K'' o w' w'') : Turned K K'' o w w'' :=
  ⟨h'.os.trans h.os, h'.tape.trans h.tape, h'.output.trans h.output, Nat.le_trans h.size h'.size,
    fun i hi hk => (h'.block i (by have := h.size; omega) (by rw [h.kind i hi]; exact hk)).trans (h.block i hi hk),
    fun i hi => (h'.kind i (by have := h.size; omega)).trans (h.kind i hi)⟩
/-- Bytes that nobody writes again stay. -/
theorem rd_turned {K K' : Nat → Nat} {o : Nat} {w w' : World} {A : Option Addr} {vs : List Value} (h : Turned K K' o w w') (ho : o ≠ 0) (hr : Rd w w.heap.size A vs) (hk : ∀ b off, A = some ⟨b, off, none⟩ → 0 < vs.length → K b = 0) : Rd w' w'.heap.size A vs := fun hn => by
  obtain ⟨b, off, e, hb, hc⟩ := hr hn
  refine ⟨b, off, e, Nat.lt_of_lt_of_le hb h.size, fun j u hu => ?_⟩
  rw [cell_of (h.block b hb (by rw [hk b off e hn]; exact fun e => ho e.symm))]
  exact hc j u hu
/-- Another disk stays. -/
theorem RefD.turned {K K' : Nat → Nat} {o o2 p : Nat} {w w' : World} {d : DSt} (hd : RefD w K o2 p d) (h : Turned K K' o w w') (ho : o ≠ 0) (h2 : o2 ≠ o) : RefD w' K' o2 p d := by
  obtain ⟨A, c, hc, hm, hp, hk, c0, c1, c2, c3, f0, f1, f2, f3, hA, hf⟩ := hd
  have hb := h.block p hp (by rw [hk]; exact h2)
  have hfz : ∀ j, w'.frozen? ⟨p, j, none⟩ = w.frozen? ⟨p, j, none⟩ := fun j => by unfold World.frozen?; rw [hb]
  refine ⟨A, c, hc, hm, Nat.lt_of_lt_of_le hp h.size, (h.kind p hp).trans hk, (cell_of hb).trans c0, (cell_of hb).trans c1, (cell_of hb).trans c2, (cell_of hb).trans c3, (hfz 0).trans f0, (hfz 1).trans f1, (hfz 2).trans f2, (hfz 3).trans f3, hA, fun hn => ?_⟩
  obtain ⟨g, off, e, hg, hkg, hgz, hcell⟩ := hf hn
  have hbg := h.block g hg (by rw [hkg]; exact h2)
  refine ⟨g, off, e, Nat.lt_of_lt_of_le hg h.size, (h.kind g hg).trans hkg, fun j => by rw [← hgz j]; unfold World.frozen?; rw [hbg], fun i f hi => ?_⟩
  obtain ⟨k0, ⟨A', c', k1, k1a, k1b, k1c, k1d⟩, k2⟩ := hcell i f hi
  refine ⟨(cell_of hbg).trans k0, ⟨A', c', (cell_of hbg).trans k1, k1a, k1b, rd_turned h ho k1c (by simpa using k1d), fun b off' e' hl => ?_⟩, (cell_of hbg).trans k2⟩
  obtain ⟨b2, off2, e2, hb2, _⟩ := k1c (by simpa using hl)
  rw [e'] at e2
  injection e2 with e2
  injection e2 with e2
  subst e2
  exact (h.kind b hb2).trans (k1d b off' e' hl)
end Go.Proofs.Ytfblekedgenacaa.RefDisk
