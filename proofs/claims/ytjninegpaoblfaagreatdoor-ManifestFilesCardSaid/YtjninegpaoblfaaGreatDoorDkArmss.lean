/- ManifestFiles: the program's disk (number 1) and the document's (number 2) side by side; a list of manifests, its cells. No conditions but those that the theorems name. · The contract of the statements' own 'awake' (the document's fixed answers are met): it answers true and changes nothing that was there. No conditions. · DiskArms: for every byte and every bool the statement's function answers true and leaves its arguments as they were. No conditions. -/
import Derived.Test.YtjninegpaoblfaaGreatDoorMfSwapP
import Derived.Test.YtjninegpaoblfaaGreatDoorOpens
import Derived.Test.YtjninegpaoblfaaGreatDoorMfDisks
import Derived.Test.YtjninegpaoblfaaGreatDoorRefMl
import Derived.Test.YtjninegpaoblfaaGreatDoorRegD
import Derived.Test.YtjninegpaoblfaaGreatDoorDkLaws
import Derived.Test.YtjninegpaoblfaaGreatDoorPdSt
import Derived.Test.YtjninegpaoblfaaGreatDoorPdClone
import Derived.Lib.SlBytesConst
import Derived.Test.YtjninegpaoblfaaGreatDoorRows
import Derived.ProofKit
import Derived.OpenShut
namespace Go.Proofs.YtjninegpaoblfaaGreatDoor.MfFilesP
open Go Go.RowKit Words AppN DkSpec PdLook RefDisk PdDisk PdOps PdRes MfSpec MfMem MfOpen MfDisk Mv RefMf RefMr MfRead

theorem flatM_len : ∀ l : List MM, (flatM l).length = l.length * 5
  | [] => rfl
  | x :: l => by
    have := flatM_len l
    unfold flatM at this ⊢
    simp only [List.flatMap_cons, List.length_append, this, mcells, List.length_cons, List.length_nil]
    omega
theorem flatM_at : ∀ {l : List MM} {k : Nat} (h : k < l.length) (j : Nat), j < 5 → (flatM l)[k * 5 + j]? = (mcells (l[k]))[j]?
  | x :: l, 0, _, j, hj => by
    unfold flatM
    simp only [List.flatMap_cons, Nat.zero_mul, Nat.zero_add, List.getElem_cons_zero]
    rw [List.getElem?_append_left (by simpa [mcells] using hj)]
  | x :: l, k + 1, h, j, hj => by
    have ih := flatM_at (l := l) (k := k) (by simpa using h) j hj
    unfold flatM at ih ⊢
    simp only [List.flatMap_cons, List.getElem_cons_succ]
    rw [List.getElem?_append_right (by simp [mcells]; omega), ← ih]
    congr 1
    simp [mcells]
    omega
/-- The k-th manifest's cells. -/
theorem cellsM {w wz : World} {A : Option Addr} {l : List MM} (hr : Rd w w.heap.size A (flatM l)) (hb : Below w.heap.size w wz) {k : Nat} (hk : k < l.length) :
    ∃ g o, A = some ⟨g, o, none⟩ ∧ g < w.heap.size ∧ ∀ j u, (mcells (l[k]))[j]? = some u → wz.cell? ⟨g, o + (k * 5 + j), none⟩ = some u := by
  obtain ⟨g, o, e, hg, hc⟩ := hr (by rw [flatM_len]; omega)
  refine ⟨g, o, e, hg, fun j u hu => ?_⟩
  have hj : j < 5 := by
    rcases Nat.lt_or_ge j 5 with h | h
    · exact h
    · rw [List.getElem?_eq_none (by simpa [mcells] using h)] at hu; cases hu
  exact (hb.cell (p := ⟨g, o + (k * 5 + j), none⟩) hg).trans (hc _ u (by rw [flatM_at hk j hj]; exact hu))

theorem cells5 {w : World} {A : Option Addr} {l : List MM} (hr : Rd w w.heap.size A (flatM l)) {k : Nat} {m : MM} (hk : l[k]? = some m) :
    ∃ g o, A = some ⟨g, o, none⟩ ∧ g < w.heap.size ∧ ∀ wz, Below w.heap.size w wz → wz.cell? ⟨g, o + k * 5, none⟩ = some (.int .i64 m.1.wal) ∧ wz.cell? ⟨g, o + k * 5 + 1, none⟩ = some (.int .i64 m.1.next) ∧ wz.cell? ⟨g, o + k * 5 + 2, none⟩ = some (.int .u64 (m.1.seq.toNat : Int)) ∧ wz.cell? ⟨g, o + k * 5 + 3, none⟩ = some (.int .i64 m.1.mark) ∧ wz.cell? ⟨g, o + k * 5 + 4, none⟩ = some (.slice m.2.1 m.2.2.1 m.2.2.2) := by
  obtain ⟨h, e⟩ := List.getElem?_eq_some_iff.1 hk
  subst e
  obtain ⟨g, o, ea, hg, _⟩ := cellsM hr (Below.refl _ w) h
  refine ⟨g, o, ea, hg, fun wz hb => ?_⟩
  obtain ⟨g', o', ea', _, hc⟩ := cellsM hr hb h
  rw [ea] at ea'
  injection ea' with ea'
  injection ea' with e1 e2
  subst e1 e2
  refine ⟨?_, ?_, ?_, ?_, ?_⟩
  · have := hc 0 _ rfl
    rwa [Nat.add_zero] at this
  · have := hc 1 _ rfl
    rwa [← Nat.add_assoc] at this
  · have := hc 2 _ rfl
    rwa [← Nat.add_assoc] at this
  · have := hc 3 _ rfl
    rwa [← Nat.add_assoc] at this
  · have := hc 4 _ rfl
    rwa [← Nat.add_assoc] at this

section
variable {P : Program} {md : Region.Mode} {ops : Array Oper} {Q : Exit → Act → World → Prop} {S : World → Prop} {dep : Nat → Bool}
theorem wpOp_want {j : Nat} {o : Oper} {K : Act → World → Prop} {a : Act} {w : World} (hi : ops[j]? = some o) (hw : Region.wanted o (yielded ops a.tmps) = true) (h : o.wp P a w K Q) : wpOp P ops Q j K a w := by
  unfold wpOp
  simp only [hi, hw, if_true]
  exact .inl h
/-- One alone may come up, guarded, and its guard holds. -/
theorem wpAnyD_oneG {j : Nat} {o : Oper} {f : Nat} {L : Array Bool} {a : Act} {w : World} (hr : Region.ready md ops L = [j]) (hd : dep j = false) (hi : ops[j]? = some o) (hg : Region.wanted o (yielded ops a.tmps) = true)
    (h : ∀ K : Act → World → Prop, Hid (∀ a' w', S w' → RegD.wpAnyD P md ops Q S dep f (L.setIfInBounds j true) a' w' → K a' w') → o.wp P a w K Q) : RegD.wpAnyD P md ops Q S dep (f + 1) L a w :=
  ⟨fun h0 => (by rw [hr] at h0; cases h0), fun k hk => by
    obtain rfl : k = j := by rw [hr] at hk; simpa using hk
    exact ⟨fun e => (by rw [hd] at e; cases e), fun _ => wpOp_want hi hg (h _ (Lib.hid fun _ _ h1 h2 => ⟨h1, h2⟩))⟩⟩
end
/-- Both disks; old memory as it was. -/
structure Fs (w : World) (K : Nat → Nat) (p q : Nat) (d d' : DSt) (wz : World) : Prop where
  disk : PDisk wz K 1 p d
  ref : RefD wz K 2 q d'
  below : Below w.heap.size w wz
  old : ∀ i, i < w.heap.size → K i = 0
section
variable {w wz wy : World} {K K' : Nat → Nat} {p q : Nat} {d d' e : DSt}
theorem below_turned {o : Nat} (hb : Below w.heap.size w wz) (hk : ∀ i, i < w.heap.size → K i = 0) (ho : o ≠ 0) (ht : Turned K K' o wz wy) : Below w.heap.size w wy :=
  ⟨ht.os.trans hb.os, ht.tape.trans hb.tape, ht.output.trans hb.output, Nat.le_trans hb.size ht.size, fun i hi => (ht.block i (Nat.lt_of_lt_of_le hi hb.size) (by rw [hk i hi]; exact fun h => ho h.symm)).trans (hb.block i hi)⟩
theorem Fs.one (h : Fs w K p q d d' wz) (hd : PDisk wy K' 1 p e) (ht : Turned K K' 1 wz wy) : Fs w K' p q e d' wy :=
  ⟨hd, RefD.mv h.ref (Mv.of ht (S := fun o => o = 1) rfl) (by decide) (by decide), below_turned h.below h.old (by decide) ht, fun i hi => (ht.kind i (Nat.lt_of_lt_of_le hi h.below.size)).trans (h.old i hi)⟩
theorem Fs.two (h : Fs w K p q d d' wz) (hd : RefD wy K' 2 q e) (ht : Turned K K' 2 wz wy) : Fs w K' p q d e wy :=
  ⟨PDisk.mv h.disk (Mv.of ht (S := fun o => o = 2) rfl) (by decide), hd, below_turned h.below h.old (by decide) ht, fun i hi => (ht.kind i (Nat.lt_of_lt_of_le hi h.below.size)).trans (h.old i hi)⟩
theorem Fs.call (h : Fs w K p q d d' wz) (hb : Below wz.heap.size wz wy) : Fs w (PdSt.mark K wz.heap.size 0) p q d d' wy :=
  ⟨PDisk.mv h.disk (S := fun _ => False) (Mv.new hb 0) (fun x => x), RefD.mv h.ref (S := fun _ => False) (Mv.new hb 0) (fun x => x) (fun x => x), h.below.trans (hb.mono h.below.size), fun i hi => (PdSt.mark_old (Nat.lt_of_lt_of_le hi h.below.size)).trans (h.old i hi)⟩
theorem Fs.first (hb : Below w.heap.size w wz) {w1 w2 : World} {K1 K2 : Nat → Nat} (h1 : PDisk w1 K1 1 p d) (t1 : ∀ o', Turned (fun _ => 0) K1 o' wz w1) (h2 : RefD w2 K2 2 q d') (t2 : ∀ o', Turned K1 K2 o' w1 w2) : Fs w K2 p q d d' w2 := by
  have m1 : Mv (fun _ => 0) K1 (fun o => o = 9) wz w1 := Mv.of (t1 9) rfl
  have m2 : Mv K1 K2 (fun o => o = 9) w1 w2 := Mv.of (t2 9) rfl
  have b1 : Below w.heap.size w w1 := below_turned hb (fun _ _ => rfl) (show 9 ≠ 0 by decide) (t1 9)
  have k1 : ∀ i, i < w.heap.size → K1 i = 0 := fun i hi => m1.kind i (Nat.lt_of_lt_of_le hi hb.size)
  exact ⟨PDisk.mv h1 m2 (by decide), h2, below_turned b1 k1 (show 9 ≠ 0 by decide) (t2 9), fun i hi => (m2.kind i (Nat.lt_of_lt_of_le hi b1.size)).trans (k1 i hi)⟩
/-- The argument's list of numbers, of Booleans, at any later world. -/
theorem Fs.rd (h : Fs w K p q d d' wz) {A : Option Addr} {vs : List Value} (hr : Rd w w.heap.size A vs) : Rd wz wz.heap.size A vs := (hr.below h.below).more h.below.size
theorem Fs.off (h : Fs w K p q d d' wz) : wz.cell? ⟨q, 2, none⟩ = some (.bool d'.off) := by
  obtain ⟨_, _, _, _, _, _, _, _, h2, _⟩ := h.ref
  exact h2
end
theorem ok_first' : Ok MfSpec.first := ⟨by constructor <;> decide, by constructor <;> decide, by constructor <;> decide, fun s hs => by cases hs⟩
theorem ok_zero' : Ok zero := ⟨by constructor <;> decide, by constructor <;> decide, by constructor <;> decide, fun s hs => by cases hs⟩
theorem ok_load (d : DSt) : Ok (MfSpec.load d).2 := by
  unfold MfSpec.load
  split
  · exact ok_first'
  · split
    · exact ok_zero'
    · exact ok_read _
theorem small_few {d : DSt} (h : Small d) : d.files.length ≤ 1000000000 := by
  have := h.fine.few
  omega
theorem small_big {d : DSt} (h : Small d) : ∀ f ∈ d.files, f.data.length ≤ 140737488355328 := fun f hf => by
  have := h.fine.small f hf
  omega
theorem small_hz {d : DSt} (h : Small d) : ∀ f ∈ d.files, f.synced ≤ f.data.length ∧ f.data.length ≤ 140737488355328 := fun f hf => ⟨(h.fine.good.2 f hf).2, small_big h f hf⟩
theorem names_len {d : DSt} (h : Small d) : ∀ a ∈ (DkSpec.list d).2, a.length ≤ 32 := by
  intro a ha
  unfold DkSpec.list at ha
  split at ha
  · cases ha
  · obtain ⟨f, hf, rfl⟩ := List.mem_map.1 ha
    have h1 := (h.fine.good.2 f hf).1
    unfold nameOk at h1
    simp only [Bool.and_eq_true, decide_eq_true_eq] at h1
    exact h1.1.2
theorem list_few {d : DSt} (h : Small d) : (DkSpec.list d).2.length ≤ 1000000000 := by
  unfold DkSpec.list
  split
  · show 0 ≤ _
    omega
  · show (d.files.map _).length ≤ _
    rw [List.length_map]
    exact small_few h
/-- The inner loop's rounds. -/
def NRel (W : World) (n : Nat) (i : Value) (wr : World) : Prop := ∃ k : Nat, k ≤ n ∧ i = .int .i64 (k : Int) ∧ Hid (Below W.heap.size W wr)
/-- What holds at the beginning of a round. -/
def FRel (w : World) (p q n : Nat) (i : Value) (wr : World) : Prop := ∃ k : Nat, k ≤ n ∧ i = .int .i64 (k : Int) ∧ Hid (∃ K d, Fs w K p q d d wr ∧ Small d)
end Go.Proofs.YtjninegpaoblfaaGreatDoor.MfFilesP

namespace Go.Proofs.YtjninegpaoblfaaGreatDoor.Awake5
open Go Go.RowKit Go.Maps Words DkSpec DkLaws PdLook RefDisk PdDisk PdChange PdOps PdSync PdRen PdRead PdApp PdRes PdSt

def xy : List UInt8 := [120, 121]
def sS (l : List UInt8) (s : Nat) : DSt := ⟨[⟨na, l, s⟩], false, false, -1⟩
theorem aw1 : append na xy fresh = (0, sS xy 0) := rfl
theorem aw2 : sync na (sS xy 0) = (0, sS xy 2) := rfl
theorem aw3 : append na [122] (sS xy 2) = (0, sS [120, 121, 122] 2) := rfl
theorem aw4 : restart [0] (sS [120, 121, 122] 2) = sS xy 2 := rfl
theorem aw5 : read na (sS xy 2) = (0, xy) := rfl
theorem aw6 : append nA [] (sS xy 2) = (1, sS xy 2) := rfl

end Go.Proofs.YtjninegpaoblfaaGreatDoor.Awake5

namespace Go.Proofs.YtjninegpaoblfaaGreatDoor.diskArms
open Go.ChangeShapes Go.WideShapes Go.ChangeAt Go.RowKit Words DkSpec DkLaws RefDisk PdDisk PdChange PdOps PdSync PdRen PdRead PdList PdApp PdRes PdSt Awake5 Ope

theorem down_st (w : World) (K : Nat → Nat) (p : Nat) (d : DSt) (h : PDisk w K 1 p d) : Calls Tryz.prog 13 #[.pointer (some ⟨p, 0, none⟩)] w fun e w' => e = .returned (.bool d.off) ∧ w = w' := by
  obtain ⟨M, D, L, G, Q, h⟩ := h
  exact down_any w K 1 p M D L G Q d h
/-- The disk, k rounds on. -/
def aK (n k : Nat) (full : Bool) : DSt := aSt 0 full ((n + 1 - k : Nat) == 0) ((n + 1 - k : Nat) : Int)
theorem aK_in {n k : Nat} {full : Bool} (h : k ≤ n) : aK n k full = aSt 0 full false (((n - k : Nat) : Int) + 1) := by
  unfold aK
  rw [show n + 1 - k = (n - k) + 1 by omega]
  rfl
theorem aK_next {n k : Nat} {full : Bool} (h : k ≤ n) : aK n (k + 1) full = aSt 0 full ((n - k : Nat) == 0) ((n - k : Nat) : Int) := by
  unfold aK
  rw [show n + 1 - (k + 1) = n - k by omega]
theorem aK_end (n : Nat) (full : Bool) : aK n (n + 1) full = aSt 0 full true 0 := by
  unfold aK
  rw [show n + 1 - (n + 1) = 0 by omega]
  rfl
theorem few (s : Nat) (full off : Bool) (left : Int) : (aSt s full off left).files.length ≤ 1000000000 := by show 1 ≤ 1000000000; omega
theorem small (s : Nat) (full off : Bool) (left : Int) : ∀ f ∈ (aSt s full off left).files, f.data.length ≤ 140737488355328 := by
  intro f hf
  simp [aSt] at hf
  subst hf
  show 1 ≤ 140737488355328
  omega
def Rel (w0 : World) (p n : Nat) (full : Bool) (i : Value) (wr : World) : Prop := ∃ k : Nat, k ≤ n + 1 ∧ i = .int .i64 (k : Int) ∧ Hid (∃ K, St w0 wr K p (aK n k full))
theorem ls (full : Bool) (left : Int) : list (aSt 0 full false left) = (0, [na]) := rfl

end Go.Proofs.YtjninegpaoblfaaGreatDoor.diskArms

