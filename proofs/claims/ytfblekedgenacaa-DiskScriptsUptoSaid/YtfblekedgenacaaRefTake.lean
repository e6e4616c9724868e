/- The contract of the document's own 'take' (a file away). Conditions: the disk lies in memory as 'RefD' says; the place is a file's; at most 10^9 files. -/
import Derived.Test.YtfblekedgenacaaRefRow
import Derived.OwnWalk
namespace Go.Proofs.Ytfblekedgenacaa.RefTake
open Go Go.RowKit Words DkSpec RefDisk RefChange RefRow AppN

def zFile : Value := .agg #[.string ByteArray.empty, .slice none 0 0, .int .i64 0]
theorem info_file : (Try.prog.info? 68).map (fun i => (i.zero, i.size, i.bytes)) = some (some zFile, 3, 48) := by kernel_rfl

section
variable {w w' : World} {K K' : Nat → Nat} {o p : Nat} {d : DSt}
/-- Where nothing that was there has changed. -/
theorem RefD.grow (h : RefD w K o p d) (hs : w.heap.size ≤ w'.heap.size) (hb : ∀ i, i < w.heap.size → w'.heap[i]? = w.heap[i]?) (hk : ∀ i, i < w.heap.size → K' i = K i) (h1 : w'.os = w.os) (h2 : w'.tape = w.tape) (h3 : w'.output = w.output) : RefD w' K' o p d :=
  RefD.turned h (o := o + 1) ⟨h1, h2, h3, hs, fun i hi _ => hb i hi, hk⟩ (by omega) (by omega)
/-- A new row of files. -/
theorem RefD.row (h : RefD w K o p d) (ho : o ≠ 0) {l : List DFile} {cs : List Value} {A : Option Addr} {c : Nat} (hl : FCells w K l cs) (hr : Rd w w.heap.size A cs) (hk : ∀ b off, A = some ⟨b, off, none⟩ → K b = o ∧ b ≠ p) (hz : ∀ b off, A = some ⟨b, off, none⟩ → ∀ j, w.frozen? ⟨b, j, none⟩ = false) (h1 : l.length ≤ c) (h2 : c ≤ maxLen) :
    RefD (w.setCell ⟨p, 0, none⟩ (.slice A l.length c)) K o p { d with files := l } := by
  obtain ⟨A0, c0', hc, hm, hp, hkp, c0, c1, c2, c3, f0, f1, f2, f3, hA, hf⟩ := h
  refine ⟨A, c, h1, h2, by simpa using hp, hkp, ?_, ?_, ?_, ?_, ?_, ?_, ?_, ?_, fun b off e => (hk b off e).2, RefChange.FRow.poke (row_of hl hr (fun b off e => (hk b off e).1) hz) (fun b off e => (hk b off e).2) hkp ho⟩
  · exact World.cell?_setCell_same _ _ _ c0
  · rw [World.cell?_setCell_other _ _ _ _ (by simp)]; exact c1
  · rw [World.cell?_setCell_other _ _ _ _ (by simp)]; exact c2
  · rw [World.cell?_setCell_other _ _ _ _ (by simp)]; exact c3
  all_goals rw [World.frozen?_setCell]; assumption
end

/-- A row of the call's own, as a slice that is read. -/
theorem own_rd {w : World} {base n size : Nat} {e : TypeId} {v : Value} {xs : List Value} (h : w.ownsRow base e size v n xs) : ∃ A c, v = .slice A n c ∧ n ≤ c ∧ c ≤ maxLen ∧ Rd w w.heap.size A xs ∧ (∀ b off, A = some ⟨b, off, none⟩ → base ≤ b ∧ b < w.heap.size ∧ ∀ j, w.frozen? ⟨b, j, none⟩ = false) := by
  have hl := h.1
  rcases h.2 with ⟨rfl, rfl⟩ | ⟨g, cap, cur, rfl, hb, hg, h1, h2, h3, h4⟩
  · exact ⟨none, 0, rfl, by omega, by unfold maxLen; omega, fun hp => by omega, fun b off e => by cases e⟩
  · have hgl : g < w.heap.size := (Array.getElem?_eq_some_iff.1 hg).1
    refine ⟨some ⟨g, 0, none⟩, cap, rfl, h1, h2, fun _ => ⟨g, 0, rfl, hgl, fun j u hu => ?_⟩, fun b off e => ?_⟩
    · have hc := h.cells (g := g) rfl j u hu
      rwa [add_off] at hc
    · injection e with e
      injection e with e
      subst e
      exact ⟨hb, hgl, fun j => h.frozenAt j⟩
/-- What a method without an answer leaves. -/
def MPost (w : World) (K : Nat → Nat) (o p : Nat) (d : DSt) (e : Ending) (w' : World) : Prop := e = .returned (.tuple #[]) ∧ ∃ K', RefD w' K' o p d ∧ Turned K K' o w w'

theorem rd_cut3 {w : World} {B : Nat} {A : Option Addr} {cs : List Value} {n c k : Nat} (h : Rd w B A cs) (hl : cs.length = n * 3) (hn : n ≤ c) : Rd w B (if c = k then A else A.map (·.add (k * 3))) (cs.drop (k * 3)) := fun hp => by
  rw [List.length_drop] at hp
  obtain ⟨b, off, rfl, hb, hcell⟩ := h (by omega)
  rw [if_neg (by omega)]
  refine ⟨b, off + k * 3, by simp [add_off], hb, fun j u hu => ?_⟩
  rw [List.getElem?_drop] at hu
  rw [Nat.add_assoc]
  exact hcell _ u hu

set_option maxHeartbeats 1600000 in
set_option maxRecDepth 100000 in
theorem take_any (w : World) (K : Nat → Nat) (o p : Nat) (d : DSt) (i : Nat) (hd : RefD w K o p d) (ho : o ≠ 0) (hi' : i < d.files.length) (hn : d.files.length ≤ 1000000000) :
    Calls Try.prog 43 #[.pointer (some ⟨p, 0, none⟩), .int .i64 (i : Int)] w (MPost w K o p { d with files := del i d.files }) := by
  obtain ⟨i0, hi, hz0, hz1, hz2⟩ := info_parts info_file
  have HD := Lib.hid hd
  obtain ⟨A, c, hc, hm, hp, hk, c0, c1, c2, c3, f0, f1, f2, f3, hA, hf⟩ := hd
  obtain ⟨cs, hcs, hrd⟩ := row_cells d.files hf
  have hcl := hcs.length
  have HCS := Lib.hid hcs
  have HRD := Lib.hid hrd
  have HCL := Lib.hid hcl
  have HKP := Lib.hid hk
  unfold maxLen at hm
  obtain ⟨l, hl⟩ : ∃ l, d.files = l := ⟨_, rfl⟩
  rw [hl] at hi' hn hc c0 HCS HCL
  have HL := Lib.hid hl
  have hown0 := World.ownsRow_nil w w.heap.size 68 3
  rw [hl]
  clear hk c1 c2 c3 f1 f2 f3 hA hf hcs hrd hcl hl
  go_enter Try.func43, Try.ntmps43
  go_wp2_with (at_builtin; refine wpList_append_rd (v := .slice none 0 0) _ rfl (.tmp 5) (.tmp 11) 59 rfl w.heap.size 3 68 i0 zFile 48 Try.underlying59 hi hz0 hz1 hz2 rfl (by omega) 0 [] rfl hown0 w.heap.size _ _ _ (cs.take (i * 3)) rfl (by simp [HCL.out]; omega) (HRD.out.take (i * 3)) (HCS.out.take i).one ?c1 ?c2 (Nat.le_refl _) ?_)
  case c1 => unfold maxLen; omega
  case c2 => omega
  intro v1 w1 hown1 hg1 _
  have hb1 : ∀ j, j < w.heap.size → w1.heap[j]? = w.heap[j]? := fun j hj => hg1.block j hj (by simp [Value.ownBlock])
  have c0' : w1.cell? ⟨p, 0, none⟩ = some (.slice A l.length c) := (cell_of (hb1 p hp)).trans c0
  have f0' : w1.frozen? ⟨p, 0, none⟩ = false := by
    rw [← f0]
    unfold World.frozen?
    rw [hb1 p hp]
  have hown1' : w1.ownsRow w.heap.size 68 3 v1 i (cs.take (i * 3)) := by simpa using hown1
  have HO1 := Lib.hid hown1'
  have S1 : Hid (w.heap.size ≤ w1.heap.size) := Lib.hid hg1.size
  have HRD1 : Hid (Rd w1 w.heap.size A cs) := Lib.hid (HRD.out.keep fun q hq => World.cell?_of_block (hb1 q.block hq))
  have HX := Lib.hid (rd_cut3 (k := i + 1) HRD1.out HCL.out hc)
  have HG1 := Lib.hid hg1
  have HB1 := Lib.hid hb1
  clear hown1 hown1' hg1 hb1 c0 f0
  have hdl : (cs.drop ((i + 1) * 3)).length = (l.length - (i + 1)) * 3 := by
    rw [List.length_drop, HCL.out, Nat.sub_mul]
  have HDL := Lib.hid hdl
  have HLEN : Hid (del i l = l.take i ++ l.drop (i + 1)) := Lib.hid rfl
  have hli : i + 1 ≤ l.length := by omega
  have hci : i + 1 ≤ c := by omega
  have hdll : (del i l).length = i + (l.length - (i + 1)) := by
    rw [HLEN.out, List.length_append, List.length_take, List.length_drop]
    omega
  have HDLL := Lib.hid hdll
  -- what stands at the end
  have HEND : Hid (∀ (v2 : Value) (w2 : World), w2.ownsRow w.heap.size 68 3 v2 (i + (l.length - (i + 1))) (cs.take (i * 3) ++ cs.drop ((i + 1) * 3)) → w1.grownBy w2 v1.ownBlock → MPost w K o p { d with files := del i l } (.returned (.tuple #[])) (w2.setCell ⟨p, 0, none⟩ v2)) := Lib.hid fun v2 w2 hown2 hg2 => by
    have hs2 : w.heap.size ≤ w2.heap.size := Nat.le_trans S1.out hg2.size
    have hb2 : ∀ j, j < w.heap.size → w2.heap[j]? = w.heap[j]? := fun j hj => (hg2.block j (by have := S1.out; omega) (fun e => by
      have := (HO1.out.lt j e.symm).1
      omega)).trans (HB1.out j hj)
    refine ⟨rfl, fun b => if b < w.heap.size then K b else o, ?_, ?_⟩
    · have hT : Turned K (fun b => if b < w.heap.size then K b else o) o w w2 := ⟨hg2.os.trans HG1.out.os, hg2.tape.trans HG1.out.tape, hg2.output.trans HG1.out.output, hs2, fun j hj _ => hb2 j hj, fun j hj => by simp [hj]⟩
      have hD2 : RefD w2 (fun b => if b < w.heap.size then K b else o) o p d := RefD.grow HD.out hs2 hb2 (fun j hj => by simp [hj]) hT.os hT.tape hT.output
      have hC2 := ((HCS.out.take i).append (HCS.out.drop (i + 1))).turned hT ho
      obtain ⟨A2, c2, rfl, hl2, hm2, hr2, hbase⟩ := own_rd hown2
      rw [← HLEN.out] at hC2
      have := RefD.row hD2 ho hC2 hr2 (fun b off e => ⟨by have := (hbase b off e).1; show (if b < w.heap.size then K b else o) = o; rw [if_neg (by omega)], by have := (hbase b off e).1; omega⟩) (fun b off e => (hbase b off e).2.2) (by rw [HDLL.out]; exact hl2) hm2
      rw [HDLL.out] at this
      exact this
    · refine ⟨hg2.os.trans HG1.out.os, hg2.tape.trans HG1.out.tape, hg2.output.trans HG1.out.output, by simpa using hs2, fun j hj hne => ?_, fun j hj => by simp [hj]⟩
      have hjp : j ≠ p := fun e => hne (by rw [e]; exact HKP.out)
      rw [← hb2 j hj]
      simp [World.setCell, Array.getElem?_modify, hjp.symm]
  clear hdl hdll
  by_cases hcd : c = i + 1
  · rw [if_pos hcd] at HX
    subst hcd
    go_wp2_with (at_builtin; refine wpList_append_rd _ rfl (.tmp 14) (.tmp 21) 59 rfl w.heap.size 3 68 i0 zFile 48 Try.underlying59 hi hz0 hz1 hz2 rfl (by omega) _ _ _ rfl HO1.out w.heap.size _ _ _ (cs.drop ((i + 1) * 3)) rfl (by rw [HDL.out]; first | rfl | (congr 1; omega)) HX.out (HCS.out.drop (i + 1)).one ?d1 ?d2 S1.out ?_)
    case d1 => unfold maxLen; omega
    case d2 => omega
    intro v2 w2 hown2 hg2 _
    have hown2' : w2.ownsRow w.heap.size 68 3 v2 (i + (l.length - (i + 1))) (cs.take (i * 3) ++ cs.drop ((i + 1) * 3)) := by
      rw [show i + (l.length - (i + 1)) = i by omega]
      exact hown2
    have hb2 : w2.heap[p]? = w1.heap[p]? := hg2.block p (by have := S1.out; omega) (fun e => by have := (HO1.out.lt p e.symm).1; omega)
    have c0'' : w2.cell? ⟨p, 0, none⟩ = some (.slice A l.length (i + 1)) := (cell_of hb2).trans c0'
    have f0'' : w2.frozen? ⟨p, 0, none⟩ = false := by
      rw [← f0']
      unfold World.frozen?
      rw [hb2]
    have HE := Lib.hid (HEND.out v2 w2 hown2' hg2)
    obtain ⟨A2, c2, rfl, _, _, _, _⟩ := own_rd hown2
    clear hown2 hown2' hg2 HEND
    go_wp2
    go_end0
    exact HE.out
  · rw [if_neg hcd] at HX
    go_wp2_with (at_builtin; refine wpList_append_rd _ rfl (.tmp 14) (.tmp 21) 59 rfl w.heap.size 3 68 i0 zFile 48 Try.underlying59 hi hz0 hz1 hz2 rfl (by omega) _ _ _ rfl HO1.out w.heap.size _ _ _ (cs.drop ((i + 1) * 3)) rfl (by rw [HDL.out]) HX.out (HCS.out.drop (i + 1)).one ?e1 ?e2 S1.out ?_)
    case e1 => unfold maxLen; omega
    case e2 => omega
    intro v2 w2 hown2 hg2 _
    have hb2 : w2.heap[p]? = w1.heap[p]? := hg2.block p (by have := S1.out; omega) (fun e => by have := (HO1.out.lt p e.symm).1; omega)
    have c0'' : w2.cell? ⟨p, 0, none⟩ = some (.slice A l.length c) := (cell_of hb2).trans c0'
    have f0'' : w2.frozen? ⟨p, 0, none⟩ = false := by
      rw [← f0']
      unfold World.frozen?
      rw [hb2]
    have HE := Lib.hid (HEND.out v2 w2 hown2 hg2)
    obtain ⟨A2, c2, rfl, _, _, _, _⟩ := own_rd hown2
    clear hown2 hg2 HEND
    go_wp2
    go_end0
    exact HE.out
end Go.Proofs.Ytfblekedgenacaa.RefTake
