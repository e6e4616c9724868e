/- The document's own disk: its files as one list of cells, and the contract of its 'take' (a file away). Conditions: the disk lies in memory as 'RefD' says; the place is a file's. · The contract of the document's own 'take' (a file away). Conditions: the disk lies in memory as 'RefD' says; the place is a file's; at most 10^9 files. · The contract of the document's own 'put' (a file at its place, the one of its name gone). Conditions: the disk lies in memory as 'RefD' says; the file's bytes are of nobody's; at most 10^9 files. -/
import Derived.Test.YtjninegpaoblfaaGreatDoorRefNames
import Derived.Test.YtjninegpaoblfaaGreatDoorAppendN
import Derived.OwnWalk
namespace Go.Proofs.YtjninegpaoblfaaGreatDoor.RefRow
open Go Go.RowKit Words DkSpec RefDisk RefChange AppN

/-- The cells of a list of files. -/
inductive FCells (w : World) (K : Nat → Nat) : List DFile → List Value → Prop
  | nil : FCells w K [] []
  | cons {f : DFile} {l : List DFile} {cs : List Value} {A : Option Addr} {c : Nat} (hc : f.data.length ≤ c) (hm : c ≤ maxLen) (hr : Rd w w.heap.size A (f.data.map B8)) (hk : ∀ b off, A = some ⟨b, off, none⟩ → 0 < f.data.length → K b = 0) (h : FCells w K l cs) :
      FCells w K (f :: l) (S8 f.name :: .slice A f.data.length c :: .int .i64 (f.synced : Int) :: cs)
section
variable {w : World} {K : Nat → Nat}
theorem FCells.length {l : List DFile} {cs : List Value} (h : FCells w K l cs) : cs.length = l.length * 3 := by
  induction h with
  | nil => rfl
  | cons _ _ _ _ _ ih => simp only [List.length_cons, ih]; omega
theorem FCells.append {l l' : List DFile} {cs cs' : List Value} (h : FCells w K l cs) (h' : FCells w K l' cs') : FCells w K (l ++ l') (cs ++ cs') := by
  induction h with
  | nil => exact h'
  | cons a b c d _ ih => exact .cons a b c d ih
theorem FCells.take {l : List DFile} {cs : List Value} (h : FCells w K l cs) : ∀ i, FCells w K (l.take i) (cs.take (i * 3)) := by
  induction h with
  | nil => intro i; simpa using FCells.nil
  | cons a b c d _ ih =>
    intro i
    cases i with
    | zero => simpa using FCells.nil
    | succ i =>
      rw [show (i + 1) * 3 = i * 3 + 1 + 1 + 1 by omega]
      exact .cons a b c d (ih i)
theorem FCells.drop {l : List DFile} {cs : List Value} (h : FCells w K l cs) : ∀ i, FCells w K (l.drop i) (cs.drop (i * 3)) := by
  induction h with
  | nil => intro i; simpa using FCells.nil
  | cons a b c d h ih =>
    intro i
    cases i with
    | zero => simpa using FCells.cons a b c d h
    | succ i =>
      rw [show (i + 1) * 3 = i * 3 + 1 + 1 + 1 by omega]
      exact ih i
theorem FCells.one {l : List DFile} {cs : List Value} (h : FCells w K l cs) : ∀ u ∈ cs, u.oneCell' = true := by
  induction h with
  | nil => intro u hu; cases hu
  | cons _ _ _ _ _ ih =>
    intro u hu
    rcases List.mem_cons.1 hu with rfl | hu
    · rfl
    rcases List.mem_cons.1 hu with rfl | hu
    · rfl
    rcases List.mem_cons.1 hu with rfl | hu
    · rfl
    exact ih u hu
/-- The cells stay while only a disk's own blocks change. -/
theorem FCells.turned {K' : Nat → Nat} {o : Nat} {w' : World} {l : List DFile} {cs : List Value} (h : FCells w K l cs) (ht : Turned K K' o w w') (ho : o ≠ 0) : FCells w' K' l cs := by
  induction h with
  | nil => exact .nil
  | cons a b c d _ ih =>
    refine .cons a b (rd_turned ht ho c (by simpa using d)) (fun b' off' e hl => ?_) ih
    obtain ⟨b2, off2, e2, hb2, _⟩ := c (by simpa using hl)
    rw [e] at e2
    injection e2 with e2
    injection e2 with e2
    subst e2
    exact (ht.kind b' hb2).trans (d b' off' e hl)
theorem FCells.at {l : List DFile} {cs : List Value} (h : FCells w K l cs) : ∀ i f, l[i]? = some f → cs[i * 3]? = some (S8 f.name) ∧ (∃ A' c', cs[i * 3 + 1]? = some (.slice A' f.data.length c') ∧ f.data.length ≤ c' ∧ c' ≤ maxLen ∧ Rd w w.heap.size A' (f.data.map B8) ∧ (∀ b off', A' = some ⟨b, off', none⟩ → 0 < f.data.length → K b = 0)) ∧ cs[i * 3 + 2]? = some (.int .i64 (f.synced : Int)) := by
  induction h with
  | nil => intro i f hi; simp at hi
  | @cons f0 l0 cs0 A c a b r d _ ih =>
    intro i f hi
    cases i with
    | zero =>
      simp only [List.getElem?_cons_zero, Option.some.injEq] at hi
      subst hi
      exact ⟨rfl, ⟨A, c, rfl, a, b, r, d⟩, rfl⟩
    | succ i =>
      simp only [List.getElem?_cons_succ] at hi
      rw [show (i + 1) * 3 = i * 3 + 1 + 1 + 1 by omega]
      exact ih i f hi
/-- A row of cells is a row of files. -/
theorem row_of {o : Nat} {A : Option Addr} {l : List DFile} {cs : List Value} (h : FCells w K l cs) (hr : Rd w w.heap.size A cs) (hk : ∀ b off, A = some ⟨b, off, none⟩ → K b = o) (hz : ∀ b off, A = some ⟨b, off, none⟩ → ∀ j, w.frozen? ⟨b, j, none⟩ = false) : FRow w K o A l := fun hn => by
  have hl := h.length
  obtain ⟨g, off, e, hg, hc⟩ := hr (by omega)
  refine ⟨g, off, e, hg, hk g off e, hz g off e, fun i f hi => ?_⟩
  obtain ⟨h0, ⟨A', c', h1, h1a, h1b, h1c, h1d⟩, h2⟩ := h.at i f hi
  exact ⟨hc _ _ h0, ⟨A', c', by rw [Nat.add_assoc]; exact hc _ _ h1, h1a, h1b, h1c, h1d⟩, by rw [Nat.add_assoc]; exact hc _ _ h2⟩
/-- And the other way round. -/
theorem row_cells {o : Nat} : ∀ (l : List DFile) {A : Option Addr}, FRow w K o A l → ∃ cs, FCells w K l cs ∧ Rd w w.heap.size A cs := by
  intro l A h
  have key : ∀ (l : List DFile) (g off : Nat), (∀ i f, l[i]? = some f → w.cell? ⟨g, off + i * 3, none⟩ = some (S8 f.name) ∧ (∃ A' c', w.cell? ⟨g, off + i * 3 + 1, none⟩ = some (.slice A' f.data.length c') ∧ f.data.length ≤ c' ∧ c' ≤ maxLen ∧ Rd w w.heap.size A' (f.data.map B8) ∧ (∀ b off', A' = some ⟨b, off', none⟩ → 0 < f.data.length → K b = 0)) ∧
      w.cell? ⟨g, off + i * 3 + 2, none⟩ = some (.int .i64 (f.synced : Int))) → ∃ cs, FCells w K l cs ∧ ∀ j u, cs[j]? = some u → w.cell? ⟨g, off + j, none⟩ = some u := by
    intro l
    induction l with
    | nil => intro g off _; exact ⟨[], .nil, fun j u hu => by simp at hu⟩
    | cons f r ih =>
      intro g off h
      obtain ⟨k0, ⟨A', c', k1, k1a, k1b, k1c, k1d⟩, k2⟩ := h 0 f rfl
      obtain ⟨cs, hcs, hcell⟩ := ih g (off + 3) (fun i f' hi => by
        have h3 := h (i + 1) f' (by simpa using hi)
        rw [show off + (i + 1) * 3 = off + 3 + i * 3 by omega] at h3
        exact h3)
      refine ⟨_, .cons k1a k1b k1c k1d hcs, fun j u hu => ?_⟩
      match j, hu with
      | 0, hu => simp at hu; subst hu; simpa using k0
      | 1, hu => simp at hu; subst hu; simpa using k1
      | 2, hu => simp at hu; subst hu; simpa using k2
      | j + 3, hu =>
        rw [show off + (j + 3) = off + 3 + j by omega]
        exact hcell j u (by simpa using hu)
  by_cases hn : 0 < l.length
  · obtain ⟨g, off, e, hg, _, _, hc⟩ := h hn
    obtain ⟨cs, h1, h2⟩ := key l g off hc
    exact ⟨cs, h1, fun _ => ⟨g, off, e, hg, h2⟩⟩
  · obtain rfl : l = [] := List.eq_nil_of_length_eq_zero (by omega)
    exact ⟨[], .nil, Rd.nil_⟩
end
end Go.Proofs.YtjninegpaoblfaaGreatDoor.RefRow

namespace Go.Proofs.YtjninegpaoblfaaGreatDoor.RefTake
open Go Go.RowKit Words DkSpec RefDisk RefChange RefRow AppN

def zFile : Value := .agg #[.string ByteArray.empty, .slice none 0 0, .int .i64 0]
theorem info_file : (Tryz.prog.info? 69).map (fun i => (i.zero, i.size, i.bytes)) = some (some zFile, 3, 48) := by kernel_rfl

section
variable {w w' : World} {K K' : Nat → Nat} {o p : Nat} {d : DSt}
/-- Where nothing that was there has changed. -/
theorem RefD.grow (h : RefD w K o p d) (hs : w.heap.size ≤ w'.heap.size) (hb : ∀ i, i < w.heap.size → w'.heap[i]? = w.heap[i]?) (hk : ∀ i, i < w.heap.size → K' i = K i) (h1 : w'.os = w.os) (h2 : w'.tape = w.tape) (h3 : w'.output = w.output) : RefD w' K' o p d :=
  RefD.turned h (o := o + 1) ⟨h1, h2, h3, hs, fun i hi _ => hb i hi, hk⟩ (by omega) (by omega)
/-- A new row of files. -/
theorem RefD.row (h : RefD w K o p d) (ho : o ≠ 0) {l : List DFile} {cs : List Value} {A : Option Addr} {c : Nat} (hl : FCells w K l cs) (hr : Rd w w.heap.size A cs) (hk : ∀ b off, A = some ⟨b, off, none⟩ → K b = o ∧ b ≠ p) (hz : ∀ b off, A = some ⟨b, off, none⟩ → ∀ j, w.frozen? ⟨b, j, none⟩ = false) (h1 : l.length ≤ c) (h2 : c ≤ maxLen) :
    RefD (w.setCell ⟨p, 0, none⟩ (.slice A l.length c)) K o p { d with files := l } := by
  obtain ⟨A0, c0', hc, hm, hp, hkp, c0, c1, c2, c3, f0, f1, f2, f3, hA, hf⟩ := h
  refine ⟨A, c, h1, h2, by simpa using hp, hkp, ?_, ?_, ?_, ?_, ?_, ?_, ?_, ?_, fun b off e => (hk b off e).2, RefChange.FRow.poke (row_of hl hr (fun b off e => (hk b off e).1) hz) (fun b off e => (hk b off e).2) hkp ho⟩
  · exact World.cell?_setCell_same _ _ _ c0
  · rw [World.cell?_setCell_other _ _ _ _ (by simp)]; exact c1
  · rw [World.cell?_setCell_other _ _ _ _ (by simp)]; exact c2
  · rw [World.cell?_setCell_other _ _ _ _ (by simp)]; exact c3
  all_goals rw [World.frozen?_setCell]; assumption
end

/-- A row of the call's own, as a slice that is read. -/
theorem own_rd {w : World} {base n size : Nat} {e : TypeId} {v : Value} {xs : List Value} (h : w.ownsRow base e size v n xs) : ∃ A c, v = .slice A n c ∧ n ≤ c ∧ c ≤ maxLen ∧ Rd w w.heap.size A xs ∧ (∀ b off, A = some ⟨b, off, none⟩ → base ≤ b ∧ b < w.heap.size ∧ ∀ j, w.frozen? ⟨b, j, none⟩ = false) := by
  have hl := h.1
  rcases h.2 with ⟨rfl, rfl⟩ | ⟨g, cap, cur, rfl, hb, hg, h1, h2, h3, h4⟩
  · exact ⟨none, 0, rfl, by omega, by unfold maxLen; omega, fun hp => by omega, fun b off e => by cases e⟩
  · have hgl : g < w.heap.size := (Array.getElem?_eq_some_iff.1 hg).1
    refine ⟨some ⟨g, 0, none⟩, cap, rfl, h1, h2, fun _ => ⟨g, 0, rfl, hgl, fun j u hu => ?_⟩, fun b off e => ?_⟩
    · have hc := h.cells (g := g) rfl j u hu
      rwa [add_off] at hc
    · injection e with e
      injection e with e
      subst e
      exact ⟨hb, hgl, fun j => h.frozenAt j⟩
/-- What a method without an answer leaves. -/
def MPost (w : World) (K : Nat → Nat) (o p : Nat) (d : DSt) (e : Ending) (w' : World) : Prop := e = .returned (.tuple #[]) ∧ ∃ K', RefD w' K' o p d ∧ Turned K K' o w w'

theorem rd_cut3 {w : World} {B : Nat} {A : Option Addr} {cs : List Value} {n c k : Nat} (h : Rd w B A cs) (hl : cs.length = n * 3) (hn : n ≤ c) : Rd w B (if c = k then A else A.map (·.add (k * 3))) (cs.drop (k * 3)) := fun hp => by
  rw [List.length_drop] at hp
  obtain ⟨b, off, rfl, hb, hcell⟩ := h (by omega)
  rw [if_neg (by omega)]
  refine ⟨b, off + k * 3, by simp [add_off], hb, fun j u hu => ?_⟩
  rw [List.getElem?_drop] at hu
  rw [Nat.add_assoc]
  exact hcell _ u hu

set_option maxHeartbeats 1600000 in
set_option maxRecDepth 100000 in
theorem take_any (w : World) (K : Nat → Nat) (o p : Nat) (d : DSt) (i : Nat) (hd : RefD w K o p d) (ho : o ≠ 0) (hi' : i < d.files.length) (hn : d.files.length ≤ 1000000000) :
    Calls Tryz.prog 59 #[.pointer (some ⟨p, 0, none⟩), .int .i64 (i : Int)] w (MPost w K o p { d with files := del i d.files }) := by
  obtain ⟨i0, hi, hz0, hz1, hz2⟩ := info_parts info_file
  have HD := Lib.hid hd
  obtain ⟨A, c, hc, hm, hp, hk, c0, c1, c2, c3, f0, f1, f2, f3, hA, hf⟩ := hd
  obtain ⟨cs, hcs, hrd⟩ := row_cells d.files hf
  have hcl := hcs.length
  have HCS := Lib.hid hcs
  have HRD := Lib.hid hrd
  have HCL := Lib.hid hcl
  have HKP := Lib.hid hk
  unfold maxLen at hm
  obtain ⟨l, hl⟩ : ∃ l, d.files = l := ⟨_, rfl⟩
  rw [hl] at hi' hn hc c0 HCS HCL
  have HL := Lib.hid hl
  have hown0 := World.ownsRow_nil w w.heap.size 69 3
  rw [hl]
  clear hk c1 c2 c3 f1 f2 f3 hA hf hcs hrd hcl hl
  go_enter Tryz.func59, Tryz.ntmps59
  go_wp2_with (at_builtin; refine wpList_append_rd (v := .slice none 0 0) _ rfl (.tmp 5) (.tmp 11) 39 rfl w.heap.size 3 69 i0 zFile 48 Tryz.underlying39 hi hz0 hz1 hz2 rfl (by omega) 0 [] rfl hown0 w.heap.size _ _ _ (cs.take (i * 3)) rfl (by simp [HCL.out]; omega) (HRD.out.take (i * 3)) (HCS.out.take i).one ?c1 ?c2 (Nat.le_refl _) ?_)
  case c1 => unfold maxLen; omega
  case c2 => omega
  intro v1 w1 hown1 hg1 _
  have hb1 : ∀ j, j < w.heap.size → w1.heap[j]? = w.heap[j]? := fun j hj => hg1.block j hj (by simp [Value.ownBlock])
  have c0' : w1.cell? ⟨p, 0, none⟩ = some (.slice A l.length c) := (cell_of (hb1 p hp)).trans c0
  have f0' : w1.frozen? ⟨p, 0, none⟩ = false := by
    rw [← f0]
    unfold World.frozen?
    rw [hb1 p hp]
  have hown1' : w1.ownsRow w.heap.size 69 3 v1 i (cs.take (i * 3)) := by simpa using hown1
  have HO1 := Lib.hid hown1'
  have S1 : Hid (w.heap.size ≤ w1.heap.size) := Lib.hid hg1.size
  have HRD1 : Hid (Rd w1 w.heap.size A cs) := Lib.hid (HRD.out.keep fun q hq => World.cell?_of_block (hb1 q.block hq))
  have HX := Lib.hid (rd_cut3 (k := i + 1) HRD1.out HCL.out hc)
  have HG1 := Lib.hid hg1
  have HB1 := Lib.hid hb1
  clear hown1 hown1' hg1 hb1 c0 f0
  have hdl : (cs.drop ((i + 1) * 3)).length = (l.length - (i + 1)) * 3 := by
    rw [List.length_drop, HCL.out, Nat.sub_mul]
  have HDL := Lib.hid hdl
  have HLEN : Hid (del i l = l.take i ++ l.drop (i + 1)) := Lib.hid rfl
  have hli : i + 1 ≤ l.length := by omega
  have hci : i + 1 ≤ c := by omega
  have hdll : (del i l).length = i + (l.length - (i + 1)) := by
    rw [HLEN.out, List.length_append, List.length_take, List.length_drop]
    omega
  have HDLL := Lib.hid hdll
  -- what stands at the end
  have HEND : Hid (∀ (v2 : Value) (w2 : World), w2.ownsRow w.heap.size 69 3 v2 (i + (l.length - (i + 1))) (cs.take (i * 3) ++ cs.drop ((i + 1) * 3)) → w1.grownBy w2 v1.ownBlock → MPost w K o p { d with files := del i l } (.returned (.tuple #[])) (w2.setCell ⟨p, 0, none⟩ v2)) := Lib.hid fun v2 w2 hown2 hg2 => by
    have hs2 : w.heap.size ≤ w2.heap.size := Nat.le_trans S1.out hg2.size
    have hb2 : ∀ j, j < w.heap.size → w2.heap[j]? = w.heap[j]? := fun j hj => (hg2.block j (by have := S1.out; omega) (fun e => by
      have := (HO1.out.lt j e.symm).1
      omega)).trans (HB1.out j hj)
    refine ⟨rfl, fun b => if b < w.heap.size then K b else o, ?_, ?_⟩
    · have hT : Turned K (fun b => if b < w.heap.size then K b else o) o w w2 := ⟨hg2.os.trans HG1.out.os, hg2.tape.trans HG1.out.tape, hg2.output.trans HG1.out.output, hs2, fun j hj _ => hb2 j hj, fun j hj => by simp [hj]⟩
      have hD2 : RefD w2 (fun b => if b < w.heap.size then K b else o) o p d := RefD.grow HD.out hs2 hb2 (fun j hj => by simp [hj]) hT.os hT.tape hT.output
      have hC2 := ((HCS.out.take i).append (HCS.out.drop (i + 1))).turned hT ho
      obtain ⟨A2, c2, rfl, hl2, hm2, hr2, hbase⟩ := own_rd hown2
      rw [← HLEN.out] at hC2
      have := RefD.row hD2 ho hC2 hr2 (fun b off e => ⟨by have := (hbase b off e).1; show (if b < w.heap.size then K b else o) = o; rw [if_neg (by omega)], by have := (hbase b off e).1; omega⟩) (fun b off e => (hbase b off e).2.2) (by rw [HDLL.out]; exact hl2) hm2
      rw [HDLL.out] at this
      exact this
    · refine ⟨hg2.os.trans HG1.out.os, hg2.tape.trans HG1.out.tape, hg2.output.trans HG1.out.output, by simpa using hs2, fun j hj hne => ?_, fun j hj => by simp [hj]⟩
      have hjp : j ≠ p := fun e => hne (by rw [e]; exact HKP.out)
      rw [← hb2 j hj]
      simp [World.setCell, Array.getElem?_modify, hjp.symm]
  clear hdl hdll
  by_cases hcd : c = i + 1
  · rw [if_pos hcd] at HX
    subst hcd
    go_wp2_with (at_builtin; refine wpList_append_rd _ rfl (.tmp 14) (.tmp 21) 39 rfl w.heap.size 3 69 i0 zFile 48 Tryz.underlying39 hi hz0 hz1 hz2 rfl (by omega) _ _ _ rfl HO1.out w.heap.size _ _ _ (cs.drop ((i + 1) * 3)) rfl (by rw [HDL.out]; first | rfl | (congr 1; omega)) HX.out (HCS.out.drop (i + 1)).one ?d1 ?d2 S1.out ?_)
    case d1 => unfold maxLen; omega
    case d2 => omega
    intro v2 w2 hown2 hg2 _
    have hown2' : w2.ownsRow w.heap.size 69 3 v2 (i + (l.length - (i + 1))) (cs.take (i * 3) ++ cs.drop ((i + 1) * 3)) := by
      rw [show i + (l.length - (i + 1)) = i by omega]
      exact hown2
    have hb2 : w2.heap[p]? = w1.heap[p]? := hg2.block p (by have := S1.out; omega) (fun e => by have := (HO1.out.lt p e.symm).1; omega)
    have c0'' : w2.cell? ⟨p, 0, none⟩ = some (.slice A l.length (i + 1)) := (cell_of hb2).trans c0'
    have f0'' : w2.frozen? ⟨p, 0, none⟩ = false := by
      rw [← f0']
      unfold World.frozen?
      rw [hb2]
    have HE := Lib.hid (HEND.out v2 w2 hown2' hg2)
    obtain ⟨A2, c2, rfl, _, _, _, _⟩ := own_rd hown2
    clear hown2 hown2' hg2 HEND
    go_wp2
    go_end0
    exact HE.out
  · rw [if_neg hcd] at HX
    go_wp2_with (at_builtin; refine wpList_append_rd _ rfl (.tmp 14) (.tmp 21) 39 rfl w.heap.size 3 69 i0 zFile 48 Tryz.underlying39 hi hz0 hz1 hz2 rfl (by omega) _ _ _ rfl HO1.out w.heap.size _ _ _ (cs.drop ((i + 1) * 3)) rfl (by rw [HDL.out]) HX.out (HCS.out.drop (i + 1)).one ?e1 ?e2 S1.out ?_)
    case e1 => unfold maxLen; omega
    case e2 => omega
    intro v2 w2 hown2 hg2 _
    have hb2 : w2.heap[p]? = w1.heap[p]? := hg2.block p (by have := S1.out; omega) (fun e => by have := (HO1.out.lt p e.symm).1; omega)
    have c0'' : w2.cell? ⟨p, 0, none⟩ = some (.slice A l.length c) := (cell_of hb2).trans c0'
    have f0'' : w2.frozen? ⟨p, 0, none⟩ = false := by
      rw [← f0']
      unfold World.frozen?
      rw [hb2]
    have HE := Lib.hid (HEND.out v2 w2 hown2 hg2)
    obtain ⟨A2, c2, rfl, _, _, _, _⟩ := own_rd hown2
    clear hown2 hg2 HEND
    go_wp2
    go_end0
    exact HE.out
end Go.Proofs.YtjninegpaoblfaaGreatDoor.RefTake

namespace Go.Proofs.YtjninegpaoblfaaGreatDoor.RefPut5
open Go Go.RowKit Words DkSpec RefDisk RefChange RefRow RefTake AppN

/-- A file as a value. -/
def fcs (f : DFile) (A : Option Addr) (c : Nat) : Array Value := #[.string ⟨f.name.toArray⟩, .slice A f.data.length c, .int .i64 (f.synced : Int)]

set_option maxHeartbeats 3200000 in
set_option maxRecDepth 100000 in
theorem put_any (w : World) (K : Nat → Nat) (o p : Nat) (d : DSt) (f : DFile) (Af : Option Addr) (cf : Nat) (hd : RefD w K o p d) (ho : o ≠ 0) (hn : d.files.length ≤ 1000000000) (hcf : f.data.length ≤ cf) (hmf : cf ≤ maxLen)
    (hrf : Rd w w.heap.size Af (f.data.map B8)) (hkf : ∀ b off, Af = some ⟨b, off, none⟩ → 0 < f.data.length → K b = 0) :
    Calls Tryz.prog 60 #[.pointer (some ⟨p, 0, none⟩), .agg (fcs f Af cf)] w (MPost w K o p { d with files := put f d.files }) := by
  obtain ⟨i0, hi, hz0, hz1, hz2⟩ := info_parts info_file
  obtain ⟨W, hW⟩ : ∃ W, W = w.alloc (.cells (fcs f Af cf) 69) := ⟨_, rfl⟩
  obtain ⟨K0, hK0⟩ : ∃ K0 : Nat → Nat, K0 = fun b => if b < w.heap.size then K b else o := ⟨_, rfl⟩
  have hk0 : ∀ j, j < w.heap.size → K0 j = K j := fun j hj => by rw [hK0]; simp [hj]
  have hsz : W.heap.size = w.heap.size + 1 := by rw [hW]; simp
  have hbW : ∀ j, j < w.heap.size → W.heap[j]? = w.heap[j]? := fun j hj => by rw [hW]; exact Below.heap_alloc w _ j hj
  have HT0 : Hid (Turned K K0 o w W) := Lib.hid ⟨by rw [hW]; rfl, by rw [hW]; rfl, by rw [hW]; rfl, by omega, fun j hj _ => hbW j hj, hk0⟩
  have HDW := Lib.hid (RefD.grow hd (K' := K0) (show w.heap.size ≤ W.heap.size by omega) hbW hk0 (by rw [hW]; rfl) (by rw [hW]; rfl) (by rw [hW]; rfl))
  have HFD := Lib.hid (find_any W K0 o p d f.name HDW.out)
  have hRfW : Rd W W.heap.size Af (f.data.map B8) := (hrf.keep fun q hq => World.cell?_of_block (hbW q.block hq)).more (by omega)
  have hkfW : ∀ b off, Af = some ⟨b, off, none⟩ → 0 < f.data.length → K0 b = 0 := fun b off e hl => by
    obtain ⟨b2, off2, e2, hb2, _⟩ := hrf (by simpa using hl)
    rw [e] at e2
    injection e2 with e2
    injection e2 with e2
    subst e2
    exact (hk0 b hb2).trans (hkf b off e hl)
  have HF1 : Hid (FCells W K0 [f] (fcs f Af cf).toList) := Lib.hid (FCells.cons hcf hmf hRfW hkfW .nil)
  have kw0 : W.cell? ⟨w.heap.size, 0, none⟩ = some (.string ⟨f.name.toArray⟩) := by rw [hW]; exact World.cell?_alloc_at _ _ _ _ rfl
  have kw1 : W.cell? ⟨w.heap.size, 1, none⟩ = some (.slice Af f.data.length cf) := by rw [hW]; exact World.cell?_alloc_at _ _ _ _ rfl
  have kw2 : W.cell? ⟨w.heap.size, 2, none⟩ = some (.int .i64 (f.synced : Int)) := by rw [hW]; exact World.cell?_alloc_at _ _ _ _ rfl
  have HHW := Lib.hid hW
  obtain ⟨A, c, hc, hm, hp, hk, c0, _, _, _, f0, _, _, _, _, hf⟩ := HDW.out
  obtain ⟨cs, hcs, hrd⟩ := row_cells d.files hf
  have HCL := Lib.hid hcs.length
  have HCS := Lib.hid hcs
  have HRD := Lib.hid hrd
  have HKP := Lib.hid hk
  have HSZ := Lib.hid hsz
  have hpw : p < w.heap.size := by
    obtain ⟨_, _, _, _, h, _⟩ := hd
    exact h
  unfold maxLen at hm hmf
  obtain ⟨l, hl⟩ : ∃ l, d.files = l := ⟨_, rfl⟩
  have hle := place_le f.name d.files
  rw [hl] at hn hc c0 HCS HCL HFD hle
  obtain ⟨i, b, hib⟩ : ∃ i b, place f.name l = (i, b) := ⟨_, _, rfl⟩
  have HPUT : Hid (put f l = l.take i ++ ([f] ++ l.drop (i + if b then 1 else 0))) := Lib.hid (by unfold put; rw [hib]; simp)
  rw [hib] at HFD hle
  obtain ⟨hle1, hle2⟩ := hle
  simp only at hle1 hle2
  have hown0 := World.ownsRow_nil W W.heap.size 69 3
  have HLL := Lib.hid hl
  rw [hl]
  unfold fcs
  unfold fcs at hW
  have hd1l : i ≤ l.length := hle1
  -- what stands at the end
  have HEND : Hid (∀ (v3 : Value) (w3 : World) (n3 : Nat), n3 = (put f l).length → w3.ownsRow W.heap.size 69 3 v3 n3 (cs.take (i * 3) ++ ((fcs f Af cf).toList ++ cs.drop ((i + if b then 1 else 0) * 3))) → W.heap.size ≤ w3.heap.size → (∀ j, j < W.heap.size → w3.heap[j]? = W.heap[j]?) → w3.os = W.os → w3.tape = W.tape → w3.output = W.output →
      MPost w K o p { d with files := put f l } (.returned (.tuple #[])) (w3.setCell ⟨p, 0, none⟩ v3)) := Lib.hid fun v3 w3 n3 hn3 hown3 hs3 hb3 h1 h2 h3 => by
    have hT : Turned K0 (fun b => if b < W.heap.size then K0 b else o) o W w3 := ⟨h1, h2, h3, hs3, fun j hj _ => hb3 j hj, fun j hj => by simp [hj]⟩
    have hD3 : RefD w3 (fun b => if b < W.heap.size then K0 b else o) o p d := RefD.grow HDW.out hs3 hb3 (fun j hj => by simp [hj]) h1 h2 h3
    have hC3 := ((HCS.out.take i).append (HF1.out.append (HCS.out.drop (i + if b then 1 else 0)))).turned hT ho
    rw [← HPUT.out] at hC3
    obtain ⟨A3, c3, rfl, hl3, hm3, hr3, hbase⟩ := own_rd hown3
    subst hn3
    refine ⟨rfl, fun b => if b < W.heap.size then K0 b else o, RefD.row hD3 ho hC3 hr3 (fun b off e => ⟨?_, ?_⟩) (fun b off e => (hbase b off e).2.2) hl3 hm3, HT0.out.trans (hT.trans (turned_poke ?_))⟩
    · have := (hbase b off e).1
      show (if b < W.heap.size then K0 b else o) = o
      rw [if_neg (by omega)]
    · have := (hbase b off e).1
      omega
    · show (if p < W.heap.size then K0 p else o) = o
      rw [if_pos hp, HKP.out]
  have hlen : (put f l).length = i + 1 + (l.length - (i + if b then 1 else 0)) := by
    rw [HPUT.out]
    simp only [List.length_append, List.length_take, List.length_drop, List.length_singleton]
    omega
  have HLEN := Lib.hid hlen
  have hkc : i + (if b then 1 else 0) ≤ l.length := by
    cases b with
    | true => have := (hle2 rfl).1; simp; omega
    | false => simp; omega
  have hbxlt : w.heap.size < W.heap.size := by omega
  obtain ⟨bx, hbx⟩ : ∃ bx, w.heap.size = bx := ⟨_, rfl⟩
  rw [hbx] at kw0 kw1 kw2 hbxlt
  have HBX := Lib.hid hbx
  clear hd hrf hkf hRfW hkfW hk hf hcs hrd hbW hk0 hK0 hsz hib hl hlen hle1 hle2 hbx
  go_enter Tryz.func60, Tryz.ntmps60
  go_wp2_with fail
  rw [← hW, HBX.out]
  refine HFD.out.mono ?_
  rintro e w1 ⟨rfl, rfl⟩
  clear hW
  go_wp2_with (at_builtin; refine wpList_append_rd (v := .slice none 0 0) _ rfl (.tmp 14) (.tmp 20) 39 rfl W.heap.size 3 69 i0 zFile 48 Tryz.underlying39 hi hz0 hz1 hz2 rfl (by omega) 0 [] rfl hown0 W.heap.size _ _ _ (cs.take (i * 3)) rfl (by simp [HCL.out]; omega) (HRD.out.take (i * 3)) (HCS.out.take i).one ?c1 ?c2 (Nat.le_refl _) ?_)
  case c1 => unfold maxLen; omega
  case c2 => omega
  intro v1 w1 hown1 hg1 _
  have hb1 : ∀ j, j < W.heap.size → w1.heap[j]? = W.heap[j]? := fun j hj => hg1.block j hj (by simp [Value.ownBlock])
  have c0' : w1.cell? ⟨p, 0, none⟩ = some (.slice A l.length c) := (cell_of (hb1 p hp)).trans c0
  have f0' : w1.frozen? ⟨p, 0, none⟩ = false := by
    rw [← f0]
    unfold World.frozen?
    rw [hb1 p hp]
  have kv0 := (cell_of (off := 0) (hb1 bx hbxlt)).trans kw0
  have kv1 := (cell_of (off := 1) (hb1 bx hbxlt)).trans kw1
  have kv2 := (cell_of (off := 2) (hb1 bx hbxlt)).trans kw2
  have HO1 : Hid (w1.ownsRow W.heap.size 69 3 v1 i (cs.take (i * 3))) := Lib.hid (by simpa using hown1)
  have S1 : Hid (W.heap.size ≤ w1.heap.size) := Lib.hid hg1.size
  have HG1 := Lib.hid hg1
  have HB1 := Lib.hid hb1
  clear hown1 hg1 hb1 c0 f0 kw0 kw1 kw2
  go_wp2_with (at_builtin; refine wpList_append_rd _ rfl (.tmp 22) (.tmp 24) 39 rfl W.heap.size 3 69 i0 zFile 48 Tryz.underlying39 hi hz0 hz1 hz2 rfl (by omega) _ _ _ rfl (HO1.out.alloc _) (w1.heap.size + 1) (some ⟨w1.heap.size, 0, none⟩) 1 1 (fcs f Af cf).toList rfl rfl (Rd.made w1 (fcs f Af cf) 69) HF1.out.one ?d1 ?d2 ?d3 ?_)
  case d1 => unfold maxLen; omega
  case d2 => omega
  case d3 => have := S1.out; simp; omega
  intro v2 w2 hown2 hg2 hloc
  have hs2 : W.heap.size ≤ w2.heap.size := by have h1 := S1.out; have h2 := hg2.size; simp at h2; omega
  have S2 := Lib.hid hs2
  have hb2 : ∀ j, j < W.heap.size → w2.heap[j]? = W.heap[j]? := fun j hj => ((hg2.block j (by have := S1.out; simp; omega) (fun e => by have := (HO1.out.lt j e.symm).1; omega)).trans (Below.heap_alloc w1 _ j (by have := S1.out; omega))).trans (HB1.out j hj)
  have HB2 := Lib.hid hb2
  have HO2 := Lib.hid hown2
  have HOS : Hid (w2.os = W.os ∧ w2.tape = W.tape ∧ w2.output = W.output) := Lib.hid ⟨hg2.os.trans HG1.out.os, hg2.tape.trans HG1.out.tape, hg2.output.trans HG1.out.output⟩
  have HC0 : Hid (W.cell? ⟨p, 0, none⟩ = some (.slice A l.length c)) := Lib.hid ((cell_of (HB1.out p hp)).symm.trans c0')
  have HF0 : Hid (W.frozen? ⟨p, 0, none⟩ = false) := Lib.hid (by
    rw [← f0']
    unfold World.frozen?
    rw [HB1.out p hp])
  have c02 : w2.cell? ⟨p, 0, none⟩ = some (.slice A l.length c) := (cell_of (hb2 p hp)).trans HC0.out
  have HRD2 : Hid (Rd w2 W.heap.size A cs) := Lib.hid (HRD.out.keep fun q hq => World.cell?_of_block (hb2 q.block hq))
  clear hown2 hg2 hb2 kv0 kv1 kv2 HO1 HG1 HB1 hloc
  cases b with
  | true =>
    simp only [if_pos] at HEND HLEN hkc
    have HX := Lib.hid (rd_cut3 (k := i + 1) HRD2.out HCL.out hc)
    have hkc' : i + 1 ≤ c := by omega
    have hnk : l.length - (i + 1) + (i + 1) = l.length := by omega
    by_cases hcd : c = (i + 1)
    · rw [if_pos hcd] at HX
      have hc0 : l.length - (i + 1) = 0 := by omega
      subst hcd
      go_wp2_with (at_builtin; refine wpList_append_rd _ rfl (.tmp 30) (.tmp 36) 39 rfl W.heap.size 3 69 i0 zFile 48 Tryz.underlying39 hi hz0 hz1 hz2 rfl (by omega) _ _ _ rfl HO2.out W.heap.size _ _ _ (cs.drop ((i + 1) * 3)) rfl (by rw [List.length_drop, HCL.out]; omega) HX.out (HCS.out.drop (i + 1)).one ?a1 ?a2 S2.out ?_)
      case a1 => unfold maxLen; omega
      case a2 => omega
      intro v3 w3 hown3 hg3 _
      have hb3 : ∀ j, j < W.heap.size → w3.heap[j]? = W.heap[j]? := fun j hj => (hg3.block j (by have := S2.out; omega) (fun e => by have := (HO2.out.lt j e.symm).1; omega)).trans (HB2.out j hj)
      have c03 : w3.cell? ⟨p, 0, none⟩ = some (.slice A l.length (i + 1)) := (cell_of (hb3 p hp)).trans HC0.out
      have f03 : w3.frozen? ⟨p, 0, none⟩ = false := by
        rw [← HF0.out]
        unfold World.frozen?
        rw [hb3 p hp]
      have hown3' := hown3
      have HE := Lib.hid (HEND.out v3 w3 _ (by rw [HLEN.out]; omega) hown3' (Nat.le_trans S2.out hg3.size) hb3 (hg3.os.trans HOS.out.1) (hg3.tape.trans HOS.out.2.1) (hg3.output.trans HOS.out.2.2))
      obtain ⟨A3, c3, rfl, _, _, _, _⟩ := own_rd hown3
      clear hown3 hown3' hg3 hb3 HEND c0' f0'
      go_wp2
      go_end0
      exact HE.out
    · rw [if_neg hcd] at HX
      go_wp2_with (at_builtin; refine wpList_append_rd _ rfl (.tmp 30) (.tmp 36) 39 rfl W.heap.size 3 69 i0 zFile 48 Tryz.underlying39 hi hz0 hz1 hz2 rfl (by omega) _ _ _ rfl HO2.out W.heap.size _ _ _ (cs.drop ((i + 1) * 3)) rfl (by rw [List.length_drop, HCL.out, Nat.sub_mul]) HX.out (HCS.out.drop (i + 1)).one ?b1 ?b2 S2.out ?_)
      case b1 => unfold maxLen; omega
      case b2 => omega
      intro v3 w3 hown3 hg3 _
      have hb3 : ∀ j, j < W.heap.size → w3.heap[j]? = W.heap[j]? := fun j hj => (hg3.block j (by have := S2.out; omega) (fun e => by have := (HO2.out.lt j e.symm).1; omega)).trans (HB2.out j hj)
      have c03 : w3.cell? ⟨p, 0, none⟩ = some (.slice A l.length c) := (cell_of (hb3 p hp)).trans HC0.out
      have f03 : w3.frozen? ⟨p, 0, none⟩ = false := by
        rw [← HF0.out]
        unfold World.frozen?
        rw [hb3 p hp]
      have hown3' := hown3
      have HE := Lib.hid (HEND.out v3 w3 _ (by rw [HLEN.out]; omega) hown3' (Nat.le_trans S2.out hg3.size) hb3 (hg3.os.trans HOS.out.1) (hg3.tape.trans HOS.out.2.1) (hg3.output.trans HOS.out.2.2))
      obtain ⟨A3, c3, rfl, _, _, _, _⟩ := own_rd hown3
      clear hown3 hown3' hg3 hb3 HEND c0' f0'
      go_wp2
      go_end0
      exact HE.out
  | false =>
    simp only [Bool.false_eq_true, if_false, Nat.add_zero] at HEND HLEN hkc
    have HX := Lib.hid (rd_cut3 (k := i) HRD2.out HCL.out hc)
    have hkc' : i ≤ c := by omega
    have hnk : l.length - i + i = l.length := by omega
    by_cases hcd : c = i
    · rw [if_pos hcd] at HX
      have hc0 : l.length - i = 0 := by omega
      have hcd' := hcd.symm
      subst hcd'
      go_wp2_with (at_builtin; refine wpList_append_rd _ rfl (.tmp 30) (.tmp 36) 39 rfl W.heap.size 3 69 i0 zFile 48 Tryz.underlying39 hi hz0 hz1 hz2 rfl (by omega) _ _ _ rfl HO2.out W.heap.size _ _ _ (cs.drop (i * 3)) rfl (by rw [List.length_drop, HCL.out]; omega) HX.out (HCS.out.drop i).one ?g1 ?g2 S2.out ?_)
      case g1 => unfold maxLen; omega
      case g2 => omega
      intro v3 w3 hown3 hg3 _
      have hb3 : ∀ j, j < W.heap.size → w3.heap[j]? = W.heap[j]? := fun j hj => (hg3.block j (by have := S2.out; omega) (fun e => by have := (HO2.out.lt j e.symm).1; omega)).trans (HB2.out j hj)
      have c03 : w3.cell? ⟨p, 0, none⟩ = some (.slice A l.length i) := (cell_of (hb3 p hp)).trans HC0.out
      have f03 : w3.frozen? ⟨p, 0, none⟩ = false := by
        rw [← HF0.out]
        unfold World.frozen?
        rw [hb3 p hp]
      have hown3' := hown3
      have HE := Lib.hid (HEND.out v3 w3 _ (by rw [HLEN.out]; omega) hown3' (Nat.le_trans S2.out hg3.size) hb3 (hg3.os.trans HOS.out.1) (hg3.tape.trans HOS.out.2.1) (hg3.output.trans HOS.out.2.2))
      obtain ⟨A3, c3, rfl, _, _, _, _⟩ := own_rd hown3
      clear hown3 hown3' hg3 hb3 HEND c0' f0'
      go_wp2
      go_end0
      exact HE.out
    · rw [if_neg hcd] at HX
      go_wp2_with (at_builtin; refine wpList_append_rd _ rfl (.tmp 30) (.tmp 36) 39 rfl W.heap.size 3 69 i0 zFile 48 Tryz.underlying39 hi hz0 hz1 hz2 rfl (by omega) _ _ _ rfl HO2.out W.heap.size _ _ _ (cs.drop (i * 3)) rfl (by rw [List.length_drop, HCL.out, Nat.sub_mul]) HX.out (HCS.out.drop i).one ?h1 ?h2 S2.out ?_)
      case h1 => unfold maxLen; omega
      case h2 => omega
      intro v3 w3 hown3 hg3 _
      have hb3 : ∀ j, j < W.heap.size → w3.heap[j]? = W.heap[j]? := fun j hj => (hg3.block j (by have := S2.out; omega) (fun e => by have := (HO2.out.lt j e.symm).1; omega)).trans (HB2.out j hj)
      have c03 : w3.cell? ⟨p, 0, none⟩ = some (.slice A l.length c) := (cell_of (hb3 p hp)).trans HC0.out
      have f03 : w3.frozen? ⟨p, 0, none⟩ = false := by
        rw [← HF0.out]
        unfold World.frozen?
        rw [hb3 p hp]
      have hown3' := hown3
      have HE := Lib.hid (HEND.out v3 w3 _ (by rw [HLEN.out]) hown3' (Nat.le_trans S2.out hg3.size) hb3 (hg3.os.trans HOS.out.1) (hg3.tape.trans HOS.out.2.1) (hg3.output.trans HOS.out.2.2))
      obtain ⟨A3, c3, rfl, _, _, _, _⟩ := own_rd hown3
      clear hown3 hown3' hg3 hb3 HEND c0' f0'
      go_wp2
      go_end0
      exact HE.out
end Go.Proofs.YtjninegpaoblfaaGreatDoor.RefPut5

